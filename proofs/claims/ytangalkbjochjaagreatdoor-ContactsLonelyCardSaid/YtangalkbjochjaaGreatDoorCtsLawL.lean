/-
  Package contacts: the law ContactsLonely.
-/
import Derived.Test.YtangalkbjochjaaGreatDoorCtsCon
import Derived.Test.YtangalkbjochjaaGreatDoorVwKit
import Derived.Deep.DeepCutAuto
import Derived.Deep.QuietTactic
import Derived.BigQuiet
namespace Go.Proofs.YtangalkbjochjaaGreatDoor
open Go.RowKit Go.Lib

/-- The contacts in which a key does not occur. -/
def restC (xk : Int) (C : List Ct) : List Ct := C.filter fun c => decide (c.lo ≠ xk ∧ c.hi ≠ xk)
theorem restC_at {C : List Ct} {l : Nat} {c : Ct} {xk : Int} (h : C[l]? = some c) : restC xk (C.take (l + 1)) = restC xk (C.take l) ++ (if (c.lo != xk && c.hi != xk) = true then [c] else []) := by
  unfold restC
  rw [List.take_add_one, h, List.filter_append]
  congr 1
  by_cases c1 : c.lo = xk <;> by_cases c2 : c.hi = xk <;> simp [c1, c2]
theorem sum_w64 {a b k : Nat} (h : a + b = k) (hk : k ≤ 1000) : wrap64 ((a : Int) + (b : Int)) = (k : Int) ∧ IntKind.i64.wrap ((a : Int) + (b : Int)) = (k : Int) := by
  constructor
  · unfold wrap64; omega
  · rw [IntKind.wrap_i64]; omega
theorem restC_len (xk : Int) (C : List Ct) : (restC xk C).length ≤ C.length := List.length_filter_le _ _
theorem lon_with {A : List Bd} (h : Vw A) {x : Bd} (hx : x ∈ A) (hl : lonB A x.k = true) : (withC (consL A) x.k).length = 0 := by
  have e : withC (consL A) x.k = [] := by
    unfold withC
    rw [List.filter_eq_nil_iff]
    intro c hc q
    have q := of_decide_eq_true q
    rw [lon_all (look_mem h.asc.once hx), List.all_eq_true] at hl
    obtain ⟨a, ha, b, hb, hab, ht, rfl⟩ := (cons_mem h.asc c).1 hc
    have ho := tch_ov (okc_of h a ha) (okc_of h b hb) ht
    rcases q with q | q
    · have e : a = x := asc_mem_lt h.asc a ha x hx q
      subst e
      have := hl b hb
      unfold lonT at this
      rw [ho, decide_eq_false (by omega)] at this
      cases this
    · have e : b = x := asc_mem_lt h.asc b hb x hx q
      subst e
      have := hl a ha
      unfold lonT at this
      rw [ovP_comm, ho, decide_eq_false (by omega)] at this
      cases this
  rw [e]
  rfl
set_option maxRecDepth 100000 in
set_option maxHeartbeats 2000000 in
theorem cyl_bad (AW : Hid CAwake) (t : Int) (L : List Bd) (v : Value) (w : World) (F0 : Fac w) (hq : Lst w v L) (hvw : viwB L = false) : Calls Tryz.prog 5 #[v, .int .u8 t] w fun e w' => e = .returned (.bool true) ∧ Kep w.heap.size w w' := by
  obtain ⟨base, cap, rfl⟩ := hq.shape
  have HQ := Lib.hid hq
  clear hq
  have VW : Hid (∀ v w, Lst w v L → Calls Tryz.prog 8 #[v] w fun e w' => ∃ v', e = .returned (.tuple #[v', .bool false]) ∧ Lst w' v' (if L.length ≤ 40 then sortL L else []) ∧ Kep w.heap.size w w') := Lib.hid (fun v w h => (rvw L v w h).mono fun e w' ⟨v', h1, h2, h3⟩ => ⟨v', by rw [h1]; rw [hvw], h2.1, h3⟩)
  go_enter Tryz.func5, Tryz.ntmps5
  go_wp2_with (first
    | ((with_reducible refine (VW.out _ _ (HQ.out.kep (Kep.refl _ _))).mono ?_); rintro e w1 ⟨v1, rfl, l1, g1⟩
       have gg := kep_next (Kep.refl _ _) g1)
    | ((with_reducible refine (AW.out _ (F0.kep (by (repeat (first | with_reducible assumption | refine kep_more ?_ _ | refine kep_drew ?_ | exact Kep.refl _ _))))).mono ?_); rintro e w2 ⟨rfl, g2⟩
       replace gg := kep_next gg g2
       replace l1 := l1.kep g2))
  go_ret
  exact ⟨rfl, gg⟩
set_option maxRecDepth 100000 in
set_option maxHeartbeats 2000000 in
theorem cyl_nil (AW : Hid CAwake) (t : Int) (L : List Bd) (v : Value) (w : World) (F0 : Fac w) (hq : Lst w v L) (HF : Hid (∀ x ∈ L, Fits x)) (hvw : viwB L = true) (hA : sortL L = []) : Calls Tryz.prog 5 #[v, .int .u8 t] w fun e w' => e = .returned (.bool true) ∧ Kep w.heap.size w w' := by
  obtain ⟨base, cap, rfl⟩ := hq.shape
  have HQ := Lib.hid hq
  clear hq
  have VW : Hid (∀ v w, Lst w v L → Calls Tryz.prog 8 #[v] w fun e w' => ∃ v', e = .returned (.tuple #[v', .bool true]) ∧ Lst w' v' [] ∧ Kep w.heap.size w w') := Lib.hid (fun v w h => (rvw L v w h).mono fun e w' ⟨v', h1, h2, h3⟩ => ⟨v', by rw [h1]; rw [hvw], by have := h2.1; rw [if_pos (vw_of hvw HF.out).1, hA] at this; exact this, h3⟩)
  go_enter Tryz.func5, Tryz.ntmps5
  go_wp2_with (first
    | ((with_reducible refine (VW.out _ _ (HQ.out.kep (Kep.refl _ _))).mono ?_); rintro e w1 ⟨v1, rfl, l1, g1⟩
       have gg := kep_next (Kep.refl _ _) g1
       obtain ⟨b1, c1, rfl⟩ := l1.shape; have z0 : (([] : List Bd).length : Int) = 0 := rfl)
    | ((with_reducible refine (AW.out _ (F0.kep (by (repeat (first | with_reducible assumption | refine kep_more ?_ _ | refine kep_drew ?_ | exact Kep.refl _ _))))).mono ?_); rintro e w2 ⟨rfl, g2⟩
       replace gg := kep_next gg g2
       replace l1 := l1.kep g2))
  go_ret
  exact ⟨rfl, gg⟩
set_option maxRecDepth 100000 in
set_option maxHeartbeats 8000000 in
theorem cyl_ok (O : COps) (AW : Hid CAwake) (t : Int) (ht : 0 ≤ t ∧ t < 256) (L : List Bd) (v : Value) (w : World) (F0 : Fac w) (hq : Lst w v L) (HF : Hid (∀ x ∈ L, Fits x)) (hvw : viwB L = true) (j : Nat) (hj : j < (sortL L).length) (htj : t % ((sortL L).length : Int) = (j : Int)) : Calls Tryz.prog 5 #[v, .int .u8 t] w fun e w' => e = .returned (.bool true) ∧ Kep w.heap.size w w' := by
  obtain ⟨base, cap, rfl⟩ := hq.shape
  have HQ := Lib.hid hq
  clear hq
  have VW : Hid (∀ v w, Lst w v L → Calls Tryz.prog 8 #[v] w fun e w' => ∃ v', e = .returned (.tuple #[v', .bool true]) ∧ (Lst w' v' (sortL L) ∧ Roomy v') ∧ Kep w.heap.size w w') := Lib.hid (fun v w h => (rvw L v w h).mono fun e w' ⟨v', h1, h2, h3⟩ => ⟨v', by rw [h1]; rw [hvw], ⟨by have := h2.1; rw [if_pos (vw_of hvw HF.out).1] at this; exact this, h2.2.2⟩, h3⟩)
  have HVW := Lib.hid (vw_of hvw HF.out).2.2
  obtain ⟨A, hA⟩ : ∃ A, A = sortL L := ⟨_, rfl⟩
  rw [← hA] at VW HVW
  rw [← hA] at hj htj
  have hx : A[j]? = some (A[j]'hj) := List.getElem?_eq_getElem _
  generalize A[j]'hj = x at hx
  have HJ := Lib.hid hx
  obtain ⟨xk, hxk⟩ : ∃ xk, xk = x.k := ⟨_, rfl⟩
  have HXK := Lib.hid hxk
  have HVG := Lib.hid (vw_goneK HVW.out hx)
  have HPG := Lib.hid (show consL (A.take j ++ A.drop (j + 1)) = restC xk (consL A) by rw [cons_gone HVW.out.asc hx, hxk]; rfl)
  have HLO := Lib.hid (show lonB A xk = true → (withC (consL A) xk).length = 0 by rw [hxk]; exact lon_with HVW.out (List.mem_of_getElem? hx))
  have HWR := Lib.hid (show (withC (consL A) xk).length + (restC xk (consL A)).length = (consL A).length from with_rest _ _)
  have hlen := HVW.out.len
  have hpm := cons_max HVW.out.len
  have hkw := Lib.hid (show (Lit.int .u32 xk).wf = true by rw [hxk]; exact HVW.out.key x (List.mem_of_getElem? hx))
  clear hx hxk
  generalize hna : A.length = na at *
  have HN := Lib.hid hna
  clear hna
  have t1 : IntKind.i64.wrap t = t := by rw [IntKind.wrap_i64]; omega
  have t2 : wrap64 t = t := by unfold wrap64; omega
  have t3 : ((na : Int) == 0) = false := by simp; omega
  have t4 : Int.tmod t (na : Int) = (j : Int) := by rw [Int.tmod_eq_emod_of_nonneg ht.1]; exact htj
  have t5 : ((0 : Int) ≤ (j : Int)) := by omega
  go_enter Tryz.func5, Tryz.ntmps5
  go_wp2_with (first
    | ((with_reducible refine (VW.out _ _ (HQ.out.kep (Kep.refl _ _))).mono ?_); rintro e w1 ⟨v1, rfl, ⟨l1, m1⟩, g1⟩
       have gg := kep_next (Kep.refl _ _) g1
       obtain ⟨b1, c1, hv1⟩ := l1.shape
       rw [HN.out] at hv1
       subst hv1
       have hcap : na ≤ c1 := m1 _ _ _ rfl
       obtain ⟨gl, off, rfl, qx⟩ := l1.at_ HJ.out
       have s0 : w1.cell? ⟨gl, off + j * 10, none⟩ = some (.int .u32 xk) := by rw [HXK.out]; exact qx 0 (by decide)
       clear qx m1)
    | ((with_reducible refine (AW.out _ (F0.kep (by (repeat (first | with_reducible assumption | refine kep_more ?_ _ | refine kep_drew ?_ | exact Kep.refl _ _))))).mono ?_); rintro e w2 ⟨rfl, g2⟩
       replace s0 := Kep.all g2 (a := ⟨gl, off + j * 10, none⟩) (v := .int .u32 xk) s0
       replace gg := kep_next gg g2
       replace l1 := l1.kep g2)
    | ((with_reducible refine (O.all _ A _ (F0.kep gg) l1 HVW.out).mono ?_); rintro e w3 ⟨v3, n3, rfl, ⟨q3, -⟩, g3⟩
       replace s0 := Kep.all g3 (a := ⟨gl, off + j * 10, none⟩) (v := .int .u32 xk) s0
       replace gg := kep_next gg g3
       replace l1 := l1.kep g3))
  clear t1 t2 t3 t4 htj ht
  obtain ⟨j1, hj1⟩ : ∃ j1, j1 = j + 1 := ⟨_, rfl⟩
  have e1 : wrap64 ((j : Int) + 1) = (j1 : Int) := by unfold wrap64; omega
  have e2 : IntKind.i64.wrap ((j : Int) + 1) = (j1 : Int) := by rw [IntKind.wrap_i64]; omega
  have i1 : (0 : Int) ≤ (j1 : Int) := by omega
  have i2 : j1 ≤ na := by omega
  have i3 : j ≤ c1 := by omega
  have i4 : (j : Int) ≤ (c1 : Int) := by omega
  have i5 : (j1 : Int) ≤ (na : Int) := by omega
  have i6 : j ≤ j1 := by omega
  have i7 : (j : Int) ≤ (j1 : Int) := by omega
  have HJ1 := Lib.hid hj1
  have HCA := Lib.hid (show ∀ (k : Nat) (x : Bd), A[k]? = some x → ∃ g' off', (some ⟨gl, off, none⟩ : Option Addr) = some ⟨g', off', none⟩ ∧ ∀ (i : Nat) (u : Value), (vals x)[i]? = some u → w3.cell? ⟨g', off' + k * 10 + i, none⟩ = some u from by
    obtain ⟨b, c, e, hc⟩ := lst_sqK l1
    injection e with e _ _
    subst e
    exact hc)
  clear hj1
  have HL := Lib.hid l1
  have HQ3 := Lib.hid q3
  have G0 := Lib.hid gg
  have HS0 := Lib.hid s0
  have hgl : gl < w3.heap.size := World.block_lt_of_cell? _ _ s0
  have hlm : (([] : List Bd) ++ A.take j).length ≤ 40 := by have := List.length_take_le j A; simp; omega
  have hld : (A.drop j1).length ≤ 40 := by rw [List.length_drop, HN.out]; omega
  clear q3 l1
  by_cases hcp : j1 = c1
  · have hl0 : na - j1 = 0 := by omega
    subst hcp
    refine wp_region_noPanic ?_
    refine wp_region_held_drew (S := (fun w' => w'.cell? ⟨gl, off + j * 10, none⟩ = some (.int .u32 xk) ∧ Kep w3.heap.size w3 w')) (by kernel_rfl) (⟨by rw [World.cell?_drew]; exact s0, kep_drew (Kep.refl _ _)⟩) (fun hH => ?_)
    refine rtk 1 (oi := ⟨some 44, .move (.tmp 5), _, _, _, none⟩) (v := ?_) rfl ?_ hH ?_
    rotate_left
    · (intro w hSw; (try dsimp only at hSw); go_simp; (try with_reducible rfl))
    refine rtk 2 (oi := ⟨some 45, .move (.tmp 7), _, _, _, none⟩) (v := ?_) rfl ?_ hH ?_
    rotate_left
    · (intro w hSw; (try dsimp only at hSw); go_simp; (try with_reducible rfl))
    refine rtk 3 (oi := ⟨some 46, .slice 22 (.tmp 44) none (some (.tmp 45)) none, _, _, _, none⟩) (v := ?_) rfl ?_ hH ?_
    rotate_left
    · (intro w hSw; (try dsimp only at hSw); go_simp; (try with_reducible rfl))
    refine rtk 5 (oi := ⟨some 48, .move (.tmp 5), _, _, _, none⟩) (v := ?_) rfl ?_ hH ?_
    rotate_left
    · (intro w hSw; (try dsimp only at hSw); go_simp; (try with_reducible rfl))
    refine rtk 6 (oi := ⟨some 49, .move (.tmp 7), _, _, _, none⟩) (v := ?_) rfl ?_ hH ?_
    rotate_left
    · (intro w hSw; (try dsimp only at hSw); go_simp; (try with_reducible rfl))
    refine rtk 7 (oi := ⟨some 50, .binOp .add 3 (.tmp 49) (.const (Value.int IntKind.i64 1)) 3, _, _, _, none⟩) (v := ?_) rfl ?_ hH ?_
    rotate_left
    · (intro w hSw; (try dsimp only at hSw); go_simp; (try with_reducible rfl))
    refine rtk 8 (oi := ⟨some 51, .slice 22 (.tmp 48) (some (.tmp 50)) none none, _, _, _, none⟩) (v := ?_) rfl ?_ hH ?_
    rotate_left
    · (intro w hSw; (try dsimp only at hSw); go_simp; (try with_reducible rfl))
    try simp only [Act.put, List.setIfInBounds_toArray, List.set_cons_zero, List.set_cons_succ]
    refine wpAnyH_ready (rs := [0]) (by kernel_rfl) (by simp) ?_
    refine AllReadyH.cons (o := ⟨some 43, .buildSlice 22 0 #[], _, _, _, none⟩) rfl (fun K hK => ?_) AllReadyH.nil
    go_simp
    refine hK.out _ _ (by (try dsimp only); (go_split_ands; exact ⟨Kep.all (kep_more (Kep.refl _ _) _) (by assumption), kep_more (by assumption) _⟩)) (fun hH2 => ?_)
    clear hK K hH; have hH := hH2; clear hH2
    try simp only [Act.put, List.setIfInBounds_toArray, List.set_cons_zero, List.set_cons_succ]
    refine wpAnyH_ready (rs := [4]) (by kernel_rfl) (by simp) ?_
    refine AllReadyH.cons (o := ⟨some 47, .call { callee := .builtin Builtin.append, args := #[.tmp 43, .tmp 46], argTypes := #[22, 22] }, _, _, _, none⟩) rfl (fun K hK => ?_) AllReadyH.nil
    refine step_appAll vals 10 vals_lenK vals_oneK (by rfl) _ _ 22 (by rfl) 46 _ 40 Tryz.underlying22 info_body rfl (by decide) w3.heap.size _ _ _ ([] : List Bd) (A.take j) (by rfl) (World.ownsRow_made w3.drew #[] 0 (Nat.le_refl _) (Nat.zero_le _) (by simp)) (by rfl) (((sq_takeK HN.out (by omega) HCA.out).kep (kep_drew (Kep.refl _ _))).kep (kep_more (Kep.refl _ _) _)) (by have := List.length_take_le j A; unfold maxLen; simp; omega) (by have := List.length_take_le j A; simp; omega) (by simp) ?_
    intro v4 w4 o4 k4
    have kk4 : Kep w3.heap.size w3 w4 := (kep_more (kep_drew (Kep.refl _ _)) _).trans k4
    refine hK.out _ _ (by (try dsimp only); (go_split_ands; exact ⟨Kep.holds k4 hgl (by assumption), Kep.trans (by assumption) k4⟩)) (fun hH2 => ?_)
    clear hK K hH; have hH := hH2; clear hH2
    try simp only [Act.put, List.setIfInBounds_toArray, List.set_cons_zero, List.set_cons_succ]
    refine wpAnyH_ready (rs := [9]) (by kernel_rfl) (by simp) ?_
    refine AllReadyH.cons (o := ⟨some 52, .call { callee := .builtin Builtin.append, args := #[.tmp 47, .tmp 51], argTypes := #[22, 22] }, _, _, _, none⟩) rfl (fun K hK => ?_) AllReadyH.nil
    refine step_appAll vals 10 vals_lenK vals_oneK (by rfl) _ _ 22 (by rfl) 46 _ 40 Tryz.underlying22 info_body rfl (by decide) w3.heap.size _ _ _ ([] ++ A.take j) (A.drop j1) (by rfl) o4 (by rfl) (sq_zero (List.drop_of_length_le (by rw [HN.out]; omega)) (by omega)) (by unfold maxLen; omega) (by omega) kk4.size ?_
    intro v5 w5 o5 k5
    have lq : Lst w5 v5 (A.take j ++ A.drop (j + 1)) := own_lst (by rw [← HJ1.out]; simpa [flat] using o5)
    refine hK.out _ _ (by (try dsimp only); (go_split_ands; exact ⟨Kep.holds k5 hgl (by assumption), Kep.trans (by assumption) k5⟩)) (fun hH2 => ?_)
    clear hK K hH; have hH := hH2; clear hH2
    try simp only [Act.put, List.setIfInBounds_toArray, List.set_cons_zero, List.set_cons_succ]
    refine wpAnyH_ready (rs := [10]) (by kernel_rfl) (by simp) ?_
    refine AllReadyH.cons (o := ⟨some 53, .call { callee := .value (.func 10), args := #[.tmp 52], argTypes := #[22] }, _, _, _, none⟩) rfl (fun K hK => ?_) AllReadyH.nil
    go_simp
    refine (O.all _ (A.take j ++ A.drop (j + 1)) _ (F0.kep (kep_next G0.out hH.2)) lq HVG.out).mono ?_; rintro e v6_10 ⟨v6, n6, rfl, ⟨q6, -⟩, g⟩
    refine hK.out _ _ (by (try dsimp only); (go_split_ands; exact ⟨Kep.all g (by assumption), kep_next (by assumption) g⟩)) (fun hH2 => ?_)
    clear hK K hH; have hH := hH2; clear hH2
    refine rtk 11 (oi := ⟨some 42, .move (.tmp 53), _, _, _, none⟩) (v := ?_) rfl ?_ hH ?_
    rotate_left
    · (intro w hSw; (try dsimp only at hSw); go_simp; (try with_reducible rfl))
    refine rtk 12 (oi := ⟨some 54, .extract (.tmp 42) 0, _, _, _, none⟩) (v := ?_) rfl ?_ hH ?_
    rotate_left
    · (intro w hSw; (try dsimp only at hSw); go_simp; (try with_reducible rfl))
    refine rtk 13 (oi := ⟨some 55, .extract (.tmp 42) 1, _, _, _, none⟩) (v := ?_) rfl ?_ hH ?_
    rotate_left
    · (intro w hSw; (try dsimp only at hSw); go_simp; (try with_reducible rfl))
    refine rtk 14 (oi := ⟨some 10, .assign (.tmp 54), _, _, _, none⟩) (v := ?_) rfl ?_ hH ?_
    rotate_left
    · (intro w hSw; (try dsimp only at hSw); go_simp; (try with_reducible rfl))
    refine rtk 15 (oi := ⟨some 11, .assign (.tmp 55), _, _, _, none⟩) (v := ?_) rfl ?_ hH ?_
    rotate_left
    · (intro w hSw; (try dsimp only at hSw); go_simp; (try with_reducible rfl))
    try simp only [Act.put, List.setIfInBounds_toArray, List.set_cons_zero, List.set_cons_succ]
    refine wpAnyH_done (by kernel_rfl) ?_ _
    refine NoPanic.normal ?_
    clear s0 gg
    obtain ⟨s0, gg⟩ := hH
    rw [HPG.out] at q6
    clear lq o5 o4 k4 k5 kk4 HCA e1 e2 i1 i2 i3 i4 i5 i6 i7
    obtain ⟨w7, hw7⟩ : ∃ x, x = v6_10 := ⟨_, rfl⟩
    rw [← hw7] at q6 s0 gg ⊢
    clear hw7
    have hq3 := HQ3.out.kep gg
    have l7 := HL.out.kep gg
    have HL7 := Lib.hid l7
    have G7 := Lib.hid gg
    obtain ⟨C, hC⟩ : ∃ C, C = consL A := ⟨_, rfl⟩
    rw [← hC] at hq3 q6 HLO HWR hpm
    have CW0 := O.with_ _ C xk w7 hq3 (by omega)
    obtain ⟨bc, cc, rfl, hc⟩ := hq3
    obtain ⟨wl, hwl⟩ : ∃ wl, wl = (withC C xk).length := ⟨_, rfl⟩
    have CW : Hid (Calls Tryz.prog 14 #[.slice bc C.length cc, .int .u32 xk] w7 fun e w' => ∃ b c, e = .returned (.slice b wl c) ∧ Kep w7.heap.size w7 w') := Lib.hid (CW0.mono (by
      rintro e w' ⟨v', rfl, q, g⟩
      obtain ⟨b, c, rfl⟩ := q.shape
      exact ⟨b, c, by rw [hwl], g⟩))
    rw [← hwl] at HLO HWR
    have jl : (j : Int) < (na : Int) := by omega
    have j0 : (0 : Int) ≤ (j : Int) := by omega
    have hc7 := Lib.hid hc
    have HQ6 := Lib.hid q6
    clear CW0 hwl hC hc q6 gg l7
    generalize hnc : C.length = nc at *
    have HNC := Lib.hid hnc
    clear hnc
    go_wp2_with ((with_reducible refine (CW.out).mono ?_); rintro e w8 ⟨bw, cw, rfl, g8⟩)
    have HC : Hid (∀ (k : Nat) (x : Ct), C[k]? = some x → ∃ g' off', bc = some ⟨g', off', none⟩ ∧ ∀ (i : Nat) (u : Value), (ctv x)[i]? = some u → w8.cell? ⟨g', off' + k * 5 + i, none⟩ = some u) := Lib.hid fun k x hx => by
      obtain ⟨g', off', e, q⟩ := hc7.out k x hx
      exact ⟨g', off', e, fun i u hu => g8.all (q i u hu)⟩
    have HS8 := Lib.hid (g8.all s0)
    replace HQ6 := Lib.hid (HQ6.out.kep g8)
    have HL8 := Lib.hid (HL7.out.kep g8)
    have G8 := Lib.hid (kep_next G7.out g8)
    clear s0 g8 CW hc7 HL7 G7
    go_loopw [13, 14] (fun out i wr => ∃ k : Nat, k ≤ nc ∧ i = .int .i64 k ∧ Hid (wr.ownsRow w8.heap.size 35 5 out (restC xk (C.take k)).length ((restC xk (C.take k)).flatMap ctv) ∧ Kep w8.heap.size w8 wr)) (fun _ i _ => nc - (RowKit.intOf i).toNat)
    case atStart => exact ⟨0, by omega, rfl, Lib.hid ⟨World.ownsRow_nil _ _ _ _, Kep.refl _ _⟩⟩
    case round =>
      obtain ⟨k, hk, rfl, HP⟩ := hrel
      have gg := HP.out.2
      have HO := Lib.hid HP.out.1
      have s0 := gg.all HS8.out
      by_cases hlt : k < nc
      · have hb : C[k]? = some (C[k]'(by rw [HNC.out]; exact hlt)) := List.getElem?_eq_getElem _
        generalize C[k]'(by rw [HNC.out]; exact hlt) = c at hb
        obtain ⟨gp, op, rfl, q⟩ := HC.out k c hb
        have t0 : wr.cell? ⟨gp, op + k * 5, none⟩ = some (.int .u32 c.lo) := gg.all (q 0 _ rfl)
        have t1 : wr.cell? ⟨gp, op + k * 5 + 1, none⟩ = some (.int .u32 c.hi) := gg.all (q 1 _ rfl)
        have t2 : wr.cell? ⟨gp, op + k * 5 + 2, none⟩ = some (.int .i32 c.nx) := gg.all (q 2 _ rfl)
        have t3 : wr.cell? ⟨gp, op + k * 5 + 3, none⟩ = some (.int .i32 c.ny) := gg.all (q 3 _ rfl)
        have t4 : wr.cell? ⟨gp, op + k * 5 + 4, none⟩ = some (.int .i32 c.dp) := gg.all (q 4 _ rfl)
        have HB := Lib.hid (restC_at (xk := xk) hb)
        have HWL : Hid ((restC xk (C.take k)).length ≤ 780) := Lib.hid (by have := restC_len xk (C.take k); have := List.length_take_le k C; have := HNC.out; omega)
        clear hb q HP
        by_cases hl : c.lo = xk
        · rw [hl] at t0 HB
          have q1 : (xk != xk) = false := by simp
          have HB2 : Hid (restC xk (C.take (k + 1)) = restC xk (C.take k)) := Lib.hid (by rw [HB.out, q1]; simp)
          clear hl HB
          go_wp2_with fail
          refine wp_region_noPanic ?_
          refine wp_region_held_drew (S := (fun w' => w'.cell? ⟨gp, op + k * 5, none⟩ = some (.int .u32 xk) ∧ w'.cell? ⟨gp, op + k * 5 + 1, none⟩ = some (.int .u32 c.hi) ∧ w'.cell? ⟨gp, op + k * 5 + 2, none⟩ = some (.int .i32 c.nx) ∧ w'.cell? ⟨gp, op + k * 5 + 3, none⟩ = some (.int .i32 c.ny) ∧ w'.cell? ⟨gp, op + k * 5 + 4, none⟩ = some (.int .i32 c.dp) ∧ w'.cell? ⟨gl, off + j * 10, none⟩ = some (.int .u32 xk) ∧ Kep w8.heap.size w8 w')) (by kernel_rfl) (⟨by rw [World.cell?_drew]; exact t0, by rw [World.cell?_drew]; exact t1, by rw [World.cell?_drew]; exact t2, by rw [World.cell?_drew]; exact t3, by rw [World.cell?_drew]; exact t4, by rw [World.cell?_drew]; exact s0, kep_drew gg⟩) (fun hH => ?_)
          refine rtk 0 (oi := ⟨some 69, .move (.tmp 8), _, _, _, none⟩) (v := ?_) rfl ?_ hH ?_
          rotate_left
          · (intro w hSw; (try dsimp only at hSw); go_simp; (try with_reducible rfl))
          refine rtk 1 (oi := ⟨some 70, .move (.tmp 14), _, _, _, none⟩) (v := ?_) rfl ?_ hH ?_
          rotate_left
          · (intro w hSw; (try dsimp only at hSw); go_simp; (try with_reducible rfl))
          refine rtk 2 (oi := ⟨some 71, .indexAddr 23 (.tmp 69) (.tmp 70), _, _, _, none⟩) (v := ?_) rfl ?_ hH ?_
          rotate_left
          · (intro w hSw; (try dsimp only at hSw); go_simp; (try with_reducible rfl))
          refine rtk 3 (oi := ⟨some 72, .fieldAddr 35 (.tmp 71) 0, _, _, _, none⟩) (v := ?_) rfl ?_ hH ?_
          rotate_left
          · (intro w hSw; (try dsimp only at hSw); go_simp; (try with_reducible rfl))
          refine rtk 4 (oi := ⟨some 73, .fieldAddr 31 (.tmp 72) 0, _, _, _, none⟩) (v := ?_) rfl ?_ hH ?_
          rotate_left
          · (intro w hSw; (try dsimp only at hSw); go_simp; (try with_reducible rfl))
          refine rtk 5 (oi := ⟨some 74, .load 24 (.tmp 73), _, _, _, none⟩) (v := ?_) rfl ?_ hH ?_
          rotate_left
          · (intro w hSw; (try dsimp only at hSw); go_simp; (try with_reducible rfl))
          refine rtk 6 (oi := ⟨some 75, .move (.tmp 5), _, _, _, none⟩) (v := ?_) rfl ?_ hH ?_
          rotate_left
          · (intro w hSw; (try dsimp only at hSw); go_simp; (try with_reducible rfl))
          refine rtk 7 (oi := ⟨some 76, .move (.tmp 7), _, _, _, none⟩) (v := ?_) rfl ?_ hH ?_
          rotate_left
          · (intro w hSw; (try dsimp only at hSw); go_simp; (try with_reducible rfl))
          refine rtk 8 (oi := ⟨some 77, .indexAddr 22 (.tmp 75) (.tmp 76), _, _, _, none⟩) (v := ?_) rfl ?_ hH ?_
          rotate_left
          · (intro w hSw; (try dsimp only at hSw); go_simp; (try with_reducible rfl))
          refine rtk 9 (oi := ⟨some 78, .fieldAddr 46 (.tmp 77) 0, _, _, _, none⟩) (v := ?_) rfl ?_ hH ?_
          rotate_left
          · (intro w hSw; (try dsimp only at hSw); go_simp; (try with_reducible rfl))
          refine rtk 10 (oi := ⟨some 79, .load 24 (.tmp 78), _, _, _, none⟩) (v := ?_) rfl ?_ hH ?_
          rotate_left
          · (intro w hSw; (try dsimp only at hSw); go_simp; (try with_reducible rfl))
          refine rtk 11 (oi := ⟨some 80, .binOp .neq 24 (.tmp 74) (.tmp 79) 24, _, _, _, none⟩) (v := ?_) rfl ?_ hH ?_
          rotate_left
          · (intro w hSw; (try dsimp only at hSw); go_simp; (try with_reducible rfl))
          refine rtk 12 (oi := ⟨some 81, .move (.tmp 80), _, _, _, none⟩) (v := ?_) rfl ?_ hH ?_
          rotate_left
          · (intro w hSw; (try dsimp only at hSw); go_simp; (try with_reducible rfl))
          try simp only [Act.put, List.setIfInBounds_toArray, List.set_cons_zero, List.set_cons_succ]
          refine rtu 13 (oi := ⟨some 82, .move (.tmp 8), _, _, _, some (12, true)⟩) rfl hH ?_
          try simp only [Act.put, List.setIfInBounds_toArray, List.set_cons_zero, List.set_cons_succ]
          refine rtu 14 (oi := ⟨some 83, .move (.tmp 14), _, _, _, some (12, true)⟩) rfl hH ?_
          try simp only [Act.put, List.setIfInBounds_toArray, List.set_cons_zero, List.set_cons_succ]
          refine rtu 15 (oi := ⟨some 84, .indexAddr 23 (.tmp 82) (.tmp 83), _, _, _, some (12, true)⟩) rfl hH ?_
          try simp only [Act.put, List.setIfInBounds_toArray, List.set_cons_zero, List.set_cons_succ]
          refine rtu 16 (oi := ⟨some 85, .fieldAddr 35 (.tmp 84) 0, _, _, _, some (12, true)⟩) rfl hH ?_
          try simp only [Act.put, List.setIfInBounds_toArray, List.set_cons_zero, List.set_cons_succ]
          refine rtu 17 (oi := ⟨some 86, .fieldAddr 31 (.tmp 85) 1, _, _, _, some (12, true)⟩) rfl hH ?_
          try simp only [Act.put, List.setIfInBounds_toArray, List.set_cons_zero, List.set_cons_succ]
          refine rtu 18 (oi := ⟨some 87, .load 24 (.tmp 86), _, _, _, some (12, true)⟩) rfl hH ?_
          try simp only [Act.put, List.setIfInBounds_toArray, List.set_cons_zero, List.set_cons_succ]
          refine rtu 19 (oi := ⟨some 88, .move (.tmp 5), _, _, _, some (12, true)⟩) rfl hH ?_
          try simp only [Act.put, List.setIfInBounds_toArray, List.set_cons_zero, List.set_cons_succ]
          refine rtu 20 (oi := ⟨some 89, .move (.tmp 7), _, _, _, some (12, true)⟩) rfl hH ?_
          try simp only [Act.put, List.setIfInBounds_toArray, List.set_cons_zero, List.set_cons_succ]
          refine rtu 21 (oi := ⟨some 90, .indexAddr 22 (.tmp 88) (.tmp 89), _, _, _, some (12, true)⟩) rfl hH ?_
          try simp only [Act.put, List.setIfInBounds_toArray, List.set_cons_zero, List.set_cons_succ]
          refine rtu 22 (oi := ⟨some 91, .fieldAddr 46 (.tmp 90) 0, _, _, _, some (12, true)⟩) rfl hH ?_
          try simp only [Act.put, List.setIfInBounds_toArray, List.set_cons_zero, List.set_cons_succ]
          refine rtu 23 (oi := ⟨some 92, .load 24 (.tmp 91), _, _, _, some (12, true)⟩) rfl hH ?_
          try simp only [Act.put, List.setIfInBounds_toArray, List.set_cons_zero, List.set_cons_succ]
          refine rtu 24 (oi := ⟨some 93, .binOp .neq 24 (.tmp 87) (.tmp 92) 24, _, _, _, some (12, true)⟩) rfl hH ?_
          refine rtk 25 (oi := ⟨some 94, .pick (.tmp 81) (.tmp 93) (.const (Value.bool false)), _, _, _, none⟩) (v := ?_) rfl ?_ hH ?_
          rotate_left
          · (intro w hSw; (try dsimp only at hSw); go_simp; (try with_reducible rfl))
          try simp only [Act.put, List.setIfInBounds_toArray, List.set_cons_zero, List.set_cons_succ]
          refine wpAnyH_done (by kernel_rfl) ?_ _
          refine NoPanic.normal ?_
          clear t0 t1 t2 t3 t4 s0 gg
          obtain ⟨t0, t1, t2, t3, t4, s0, gg⟩ := hH
          go_wp2_with fail
          go_roundw
          case rel => exact ⟨k + 1, by omega, by go_num, Lib.hid ⟨by rw [HB2.out]; exact HO.out, gg⟩⟩
          case measure => simp [RowKit.intOf]; omega
        · have q1 : (c.lo != xk) = true := bne_iff_ne.2 hl
          obtain ⟨z2, hz2⟩ : ∃ z2, (c.hi != xk) = z2 := ⟨_, rfl⟩
          have HB2 : Hid (restC xk (C.take (k + 1)) = restC xk (C.take k) ++ (if z2 = true then [c] else [])) := Lib.hid (by rw [HB.out, q1, hz2]; rfl)
          clear hl HB
          go_wp2_with fail
          refine wp_region_noPanic ?_
          refine wp_region_held_drew (S := (fun w' => w'.cell? ⟨gp, op + k * 5, none⟩ = some (.int .u32 c.lo) ∧ w'.cell? ⟨gp, op + k * 5 + 1, none⟩ = some (.int .u32 c.hi) ∧ w'.cell? ⟨gp, op + k * 5 + 2, none⟩ = some (.int .i32 c.nx) ∧ w'.cell? ⟨gp, op + k * 5 + 3, none⟩ = some (.int .i32 c.ny) ∧ w'.cell? ⟨gp, op + k * 5 + 4, none⟩ = some (.int .i32 c.dp) ∧ w'.cell? ⟨gl, off + j * 10, none⟩ = some (.int .u32 xk) ∧ Kep w8.heap.size w8 w')) (by kernel_rfl) (⟨by rw [World.cell?_drew]; exact t0, by rw [World.cell?_drew]; exact t1, by rw [World.cell?_drew]; exact t2, by rw [World.cell?_drew]; exact t3, by rw [World.cell?_drew]; exact t4, by rw [World.cell?_drew]; exact s0, kep_drew gg⟩) (fun hH => ?_)
          refine rtk 0 (oi := ⟨some 69, .move (.tmp 8), _, _, _, none⟩) (v := ?_) rfl ?_ hH ?_
          rotate_left
          · (intro w hSw; (try dsimp only at hSw); go_simp; (try with_reducible rfl))
          refine rtk 1 (oi := ⟨some 70, .move (.tmp 14), _, _, _, none⟩) (v := ?_) rfl ?_ hH ?_
          rotate_left
          · (intro w hSw; (try dsimp only at hSw); go_simp; (try with_reducible rfl))
          refine rtk 2 (oi := ⟨some 71, .indexAddr 23 (.tmp 69) (.tmp 70), _, _, _, none⟩) (v := ?_) rfl ?_ hH ?_
          rotate_left
          · (intro w hSw; (try dsimp only at hSw); go_simp; (try with_reducible rfl))
          refine rtk 3 (oi := ⟨some 72, .fieldAddr 35 (.tmp 71) 0, _, _, _, none⟩) (v := ?_) rfl ?_ hH ?_
          rotate_left
          · (intro w hSw; (try dsimp only at hSw); go_simp; (try with_reducible rfl))
          refine rtk 4 (oi := ⟨some 73, .fieldAddr 31 (.tmp 72) 0, _, _, _, none⟩) (v := ?_) rfl ?_ hH ?_
          rotate_left
          · (intro w hSw; (try dsimp only at hSw); go_simp; (try with_reducible rfl))
          refine rtk 5 (oi := ⟨some 74, .load 24 (.tmp 73), _, _, _, none⟩) (v := ?_) rfl ?_ hH ?_
          rotate_left
          · (intro w hSw; (try dsimp only at hSw); go_simp; (try with_reducible rfl))
          refine rtk 6 (oi := ⟨some 75, .move (.tmp 5), _, _, _, none⟩) (v := ?_) rfl ?_ hH ?_
          rotate_left
          · (intro w hSw; (try dsimp only at hSw); go_simp; (try with_reducible rfl))
          refine rtk 7 (oi := ⟨some 76, .move (.tmp 7), _, _, _, none⟩) (v := ?_) rfl ?_ hH ?_
          rotate_left
          · (intro w hSw; (try dsimp only at hSw); go_simp; (try with_reducible rfl))
          refine rtk 8 (oi := ⟨some 77, .indexAddr 22 (.tmp 75) (.tmp 76), _, _, _, none⟩) (v := ?_) rfl ?_ hH ?_
          rotate_left
          · (intro w hSw; (try dsimp only at hSw); go_simp; (try with_reducible rfl))
          refine rtk 9 (oi := ⟨some 78, .fieldAddr 46 (.tmp 77) 0, _, _, _, none⟩) (v := ?_) rfl ?_ hH ?_
          rotate_left
          · (intro w hSw; (try dsimp only at hSw); go_simp; (try with_reducible rfl))
          refine rtk 10 (oi := ⟨some 79, .load 24 (.tmp 78), _, _, _, none⟩) (v := ?_) rfl ?_ hH ?_
          rotate_left
          · (intro w hSw; (try dsimp only at hSw); go_simp; (try with_reducible rfl))
          refine rtk 11 (oi := ⟨some 80, .binOp .neq 24 (.tmp 74) (.tmp 79) 24, _, _, _, none⟩) (v := ?_) rfl ?_ hH ?_
          rotate_left
          · (intro w hSw; (try dsimp only at hSw); go_simp; (try with_reducible rfl))
          refine rtk 12 (oi := ⟨some 81, .move (.tmp 80), _, _, _, none⟩) (v := ?_) rfl ?_ hH ?_
          rotate_left
          · (intro w hSw; (try dsimp only at hSw); go_simp; (try with_reducible rfl))
          try simp only [Act.put, List.setIfInBounds_toArray, List.set_cons_zero, List.set_cons_succ]
          refine rtk 13 (oi := ⟨some 82, .move (.tmp 8), _, _, _, some (12, true)⟩) (v := ?_) rfl ?_ hH ?_
          rotate_left
          · (intro w hSw; (try dsimp only at hSw); go_simp; (try with_reducible rfl))
          try simp only [Act.put, List.setIfInBounds_toArray, List.set_cons_zero, List.set_cons_succ]
          refine rtk 14 (oi := ⟨some 83, .move (.tmp 14), _, _, _, some (12, true)⟩) (v := ?_) rfl ?_ hH ?_
          rotate_left
          · (intro w hSw; (try dsimp only at hSw); go_simp; (try with_reducible rfl))
          try simp only [Act.put, List.setIfInBounds_toArray, List.set_cons_zero, List.set_cons_succ]
          refine rtk 15 (oi := ⟨some 84, .indexAddr 23 (.tmp 82) (.tmp 83), _, _, _, some (12, true)⟩) (v := ?_) rfl ?_ hH ?_
          rotate_left
          · (intro w hSw; (try dsimp only at hSw); go_simp; (try with_reducible rfl))
          try simp only [Act.put, List.setIfInBounds_toArray, List.set_cons_zero, List.set_cons_succ]
          refine rtk 16 (oi := ⟨some 85, .fieldAddr 35 (.tmp 84) 0, _, _, _, some (12, true)⟩) (v := ?_) rfl ?_ hH ?_
          rotate_left
          · (intro w hSw; (try dsimp only at hSw); go_simp; (try with_reducible rfl))
          try simp only [Act.put, List.setIfInBounds_toArray, List.set_cons_zero, List.set_cons_succ]
          refine rtk 17 (oi := ⟨some 86, .fieldAddr 31 (.tmp 85) 1, _, _, _, some (12, true)⟩) (v := ?_) rfl ?_ hH ?_
          rotate_left
          · (intro w hSw; (try dsimp only at hSw); go_simp; (try with_reducible rfl))
          try simp only [Act.put, List.setIfInBounds_toArray, List.set_cons_zero, List.set_cons_succ]
          refine rtk 18 (oi := ⟨some 87, .load 24 (.tmp 86), _, _, _, some (12, true)⟩) (v := ?_) rfl ?_ hH ?_
          rotate_left
          · (intro w hSw; (try dsimp only at hSw); go_simp; (try with_reducible rfl))
          try simp only [Act.put, List.setIfInBounds_toArray, List.set_cons_zero, List.set_cons_succ]
          refine rtk 19 (oi := ⟨some 88, .move (.tmp 5), _, _, _, some (12, true)⟩) (v := ?_) rfl ?_ hH ?_
          rotate_left
          · (intro w hSw; (try dsimp only at hSw); go_simp; (try with_reducible rfl))
          try simp only [Act.put, List.setIfInBounds_toArray, List.set_cons_zero, List.set_cons_succ]
          refine rtk 20 (oi := ⟨some 89, .move (.tmp 7), _, _, _, some (12, true)⟩) (v := ?_) rfl ?_ hH ?_
          rotate_left
          · (intro w hSw; (try dsimp only at hSw); go_simp; (try with_reducible rfl))
          try simp only [Act.put, List.setIfInBounds_toArray, List.set_cons_zero, List.set_cons_succ]
          refine rtk 21 (oi := ⟨some 90, .indexAddr 22 (.tmp 88) (.tmp 89), _, _, _, some (12, true)⟩) (v := ?_) rfl ?_ hH ?_
          rotate_left
          · (intro w hSw; (try dsimp only at hSw); go_simp; (try with_reducible rfl))
          try simp only [Act.put, List.setIfInBounds_toArray, List.set_cons_zero, List.set_cons_succ]
          refine rtk 22 (oi := ⟨some 91, .fieldAddr 46 (.tmp 90) 0, _, _, _, some (12, true)⟩) (v := ?_) rfl ?_ hH ?_
          rotate_left
          · (intro w hSw; (try dsimp only at hSw); go_simp; (try with_reducible rfl))
          try simp only [Act.put, List.setIfInBounds_toArray, List.set_cons_zero, List.set_cons_succ]
          refine rtk 23 (oi := ⟨some 92, .load 24 (.tmp 91), _, _, _, some (12, true)⟩) (v := ?_) rfl ?_ hH ?_
          rotate_left
          · (intro w hSw; (try dsimp only at hSw); go_simp; (try with_reducible rfl))
          try simp only [Act.put, List.setIfInBounds_toArray, List.set_cons_zero, List.set_cons_succ]
          refine rtk 24 (oi := ⟨some 93, .binOp .neq 24 (.tmp 87) (.tmp 92) 24, _, _, _, some (12, true)⟩) (v := ?_) rfl ?_ hH ?_
          rotate_left
          · (intro w hSw; (try dsimp only at hSw); go_simp; (try with_reducible rfl))
          refine rtk 25 (oi := ⟨some 94, .pick (.tmp 81) (.tmp 93) (.const (Value.bool false)), _, _, _, none⟩) (v := ?_) rfl ?_ hH ?_
          rotate_left
          · (intro w hSw; (try dsimp only at hSw); go_simp; (try with_reducible rfl))
          try simp only [Act.put, List.setIfInBounds_toArray, List.set_cons_zero, List.set_cons_succ]
          refine wpAnyH_done (by kernel_rfl) ?_ _
          refine NoPanic.normal ?_
          clear t0 t1 t2 t3 t4 s0 gg
          obtain ⟨t0, t1, t2, t3, t4, s0, gg⟩ := hH
          clear hz2 q1
          have HO2 := Lib.hid (World.ownsRow.drew HO.out)
          obtain ⟨wq, hwq⟩ : ∃ x, x = wr.drew := ⟨_, rfl⟩
          rw [← hwq] at HO2 s0 t0 t1 t2 t3 t4 gg ⊢
          clear hwq HO
          cases z2
          · go_wp2_with fail
            go_roundw
            case rel => exact ⟨k + 1, by omega, by go_num, Lib.hid ⟨by have := HB2.out; rw [this]; simpa using HO2.out, gg⟩⟩
            case measure => simp [RowKit.intOf]; omega
          · go_wp2_with (first
              | (at_builtin; refine wpList_app ctv 5 ctv_len ctv_one rfl _ _ 23 rfl 35 _ 20 Tryz.underlying23 info_con rfl (by decide) w8.heap.size _ _ (restC xk (C.take k)) c rfl HO2.out _ (by first | rfl | simp) rfl _ rfl (by have := HWL.out; unfold maxLen; omega) (by have := HWL.out; omega) gg.size ?_; intro v8 w9 o8 k8))
            have HM : Hid (w9.ownsRow w8.heap.size 35 5 v8 (restC xk (C.take (k + 1))).length ((restC xk (C.take (k + 1))).flatMap ctv) ∧ Kep w8.heap.size w8 w9) := Lib.hid ⟨by rw [HB2.out, if_pos rfl]; exact o8, gg.trans k8⟩
            clear o8 k8
            go_roundw
            case rel => exact ⟨k + 1, by omega, by go_num, HM⟩
            case measure => simp [RowKit.intOf]; omega
      · obtain rfl : k = nc := by omega
        have h1 := HP.out.1
        rw [List.take_of_length_le (by rw [HNC.out]; omega)] at h1
        have oq := own_sq ctv_len h1
        obtain ⟨b9, c9, rfl⟩ := oq.shape
        have q6 := HQ6.out.kep gg
        have l1 := HL8.out.kep gg
        have hwl := restC_len xk C
        have hnc := HNC.out
        obtain ⟨z, hz⟩ : ∃ z, lonB A xk = z := ⟨_, rfl⟩
        have HLN := Lib.hid (fun v w h => (show Calls Tryz.prog 19 #[v, .int .u32 xk] w fun e w' => e = .returned (.bool z) ∧ Kep w.heap.size w w' by rw [← hz]; exact rpl A xk (by have := HVW.out.len; omega) (Lib.hid HVW.out.ok) HVW.out.asc v w h))
        rw [hz] at HLO
        obtain ⟨rl, hrl⟩ : ∃ r, r = (restC xk C).length := ⟨_, rfl⟩
        rw [← hrl] at HWR
        have hsum := HWR.out
        have e1 := (sum_w64 hsum (Nat.le_trans hpm (by decide))).1
        have e2 := (sum_w64 hsum (Nat.le_trans hpm (by decide))).2
        have hrm : (restC xk C).length ≤ 1000000000 := Nat.le_trans hwl (by rw [hnc]; exact Nat.le_trans hpm (by decide))
        have HS := Lib.hid (fun w h1 h2 => rks (restC xk C) hrm v6 (.slice b9 rl c9) w h1 h2)
        have oq2 : Sq ctv 5 wr (.slice b9 rl c9) (restC xk C) := by rw [hrl]; exact oq
        rw [← hrl]
        have gw := kep_next (kep_next G0.out G8.out) gg
        clear h1 oq hz HP hrl gg hwl hnc hsum hrm
        have HZW : Hid (z = true → wl = 0) := HLO
        cases z with
        | false =>
          go_wp2_with (first
            | ((with_reducible refine (HS.out _ q6 oq2).mono ?_); rintro e w10 ⟨rfl, g10⟩
               replace s0 := g10.all s0
               replace l1 := l1.kep g10
               replace gw := kep_next gw g10)
            | ((with_reducible refine (HLN.out _ _ l1).mono ?_); rintro e w11 ⟨rfl, g11⟩
               replace gw := kep_next gw g11))
          go_ret
          exact ⟨rfl, gw⟩
        | true =>
          obtain rfl : wl = 0 := HZW.out rfl
          have hrk : rl = k := (Nat.zero_add rl).symm.trans HWR.out
          subst hrk
          clear e1 e2
          go_wp2_with (first
            | ((with_reducible refine (HS.out _ q6 oq2).mono ?_); rintro e w10 ⟨rfl, g10⟩
               replace s0 := g10.all s0
               replace l1 := l1.kep g10
               replace gw := kep_next gw g10)
            | ((with_reducible refine (HLN.out _ _ l1).mono ?_); rintro e w11 ⟨rfl, g11⟩
               replace gw := kep_next gw g11))
          go_ret
          exact ⟨rfl, gw⟩
  · have hcp2 : c1 - j1 ≠ 0 := by omega
    have hcp3 : ¬ c1 = j1 := fun e => hcp e.symm
    clear hcp
    refine wp_region_noPanic ?_
    refine wp_region_held_drew (S := (fun w' => w'.cell? ⟨gl, off + j * 10, none⟩ = some (.int .u32 xk) ∧ Kep w3.heap.size w3 w')) (by kernel_rfl) (⟨by rw [World.cell?_drew]; exact s0, kep_drew (Kep.refl _ _)⟩) (fun hH => ?_)
    refine rtk 1 (oi := ⟨some 44, .move (.tmp 5), _, _, _, none⟩) (v := ?_) rfl ?_ hH ?_
    rotate_left
    · (intro w hSw; (try dsimp only at hSw); go_simp; (try with_reducible rfl))
    refine rtk 2 (oi := ⟨some 45, .move (.tmp 7), _, _, _, none⟩) (v := ?_) rfl ?_ hH ?_
    rotate_left
    · (intro w hSw; (try dsimp only at hSw); go_simp; (try with_reducible rfl))
    refine rtk 3 (oi := ⟨some 46, .slice 22 (.tmp 44) none (some (.tmp 45)) none, _, _, _, none⟩) (v := ?_) rfl ?_ hH ?_
    rotate_left
    · (intro w hSw; (try dsimp only at hSw); go_simp; (try with_reducible rfl))
    refine rtk 5 (oi := ⟨some 48, .move (.tmp 5), _, _, _, none⟩) (v := ?_) rfl ?_ hH ?_
    rotate_left
    · (intro w hSw; (try dsimp only at hSw); go_simp; (try with_reducible rfl))
    refine rtk 6 (oi := ⟨some 49, .move (.tmp 7), _, _, _, none⟩) (v := ?_) rfl ?_ hH ?_
    rotate_left
    · (intro w hSw; (try dsimp only at hSw); go_simp; (try with_reducible rfl))
    refine rtk 7 (oi := ⟨some 50, .binOp .add 3 (.tmp 49) (.const (Value.int IntKind.i64 1)) 3, _, _, _, none⟩) (v := ?_) rfl ?_ hH ?_
    rotate_left
    · (intro w hSw; (try dsimp only at hSw); go_simp; (try with_reducible rfl))
    refine rtk 8 (oi := ⟨some 51, .slice 22 (.tmp 48) (some (.tmp 50)) none none, _, _, _, none⟩) (v := ?_) rfl ?_ hH ?_
    rotate_left
    · (intro w hSw; (try dsimp only at hSw); go_simp; (try with_reducible rfl))
    try simp only [Act.put, List.setIfInBounds_toArray, List.set_cons_zero, List.set_cons_succ]
    refine wpAnyH_ready (rs := [0]) (by kernel_rfl) (by simp) ?_
    refine AllReadyH.cons (o := ⟨some 43, .buildSlice 22 0 #[], _, _, _, none⟩) rfl (fun K hK => ?_) AllReadyH.nil
    go_simp
    refine hK.out _ _ (by (try dsimp only); (go_split_ands; exact ⟨Kep.all (kep_more (Kep.refl _ _) _) (by assumption), kep_more (by assumption) _⟩)) (fun hH2 => ?_)
    clear hK K hH; have hH := hH2; clear hH2
    try simp only [Act.put, List.setIfInBounds_toArray, List.set_cons_zero, List.set_cons_succ]
    refine wpAnyH_ready (rs := [4]) (by kernel_rfl) (by simp) ?_
    refine AllReadyH.cons (o := ⟨some 47, .call { callee := .builtin Builtin.append, args := #[.tmp 43, .tmp 46], argTypes := #[22, 22] }, _, _, _, none⟩) rfl (fun K hK => ?_) AllReadyH.nil
    refine step_appAll vals 10 vals_lenK vals_oneK (by rfl) _ _ 22 (by rfl) 46 _ 40 Tryz.underlying22 info_body rfl (by decide) w3.heap.size _ _ _ ([] : List Bd) (A.take j) (by rfl) (World.ownsRow_made w3.drew #[] 0 (Nat.le_refl _) (Nat.zero_le _) (by simp)) (by rfl) (((sq_takeK HN.out (by omega) HCA.out).kep (kep_drew (Kep.refl _ _))).kep (kep_more (Kep.refl _ _) _)) (by have := List.length_take_le j A; unfold maxLen; simp; omega) (by have := List.length_take_le j A; simp; omega) (by simp) ?_
    intro v4 w4 o4 k4
    have kk4 : Kep w3.heap.size w3 w4 := (kep_more (kep_drew (Kep.refl _ _)) _).trans k4
    refine hK.out _ _ (by (try dsimp only); (go_split_ands; exact ⟨Kep.holds k4 hgl (by assumption), Kep.trans (by assumption) k4⟩)) (fun hH2 => ?_)
    clear hK K hH; have hH := hH2; clear hH2
    try simp only [Act.put, List.setIfInBounds_toArray, List.set_cons_zero, List.set_cons_succ]
    refine wpAnyH_ready (rs := [9]) (by kernel_rfl) (by simp) ?_
    refine AllReadyH.cons (o := ⟨some 52, .call { callee := .builtin Builtin.append, args := #[.tmp 47, .tmp 51], argTypes := #[22, 22] }, _, _, _, none⟩) rfl (fun K hK => ?_) AllReadyH.nil
    refine step_appAll vals 10 vals_lenK vals_oneK (by rfl) _ _ 22 (by rfl) 46 _ 40 Tryz.underlying22 info_body rfl (by decide) w3.heap.size _ _ _ ([] ++ A.take j) (A.drop j1) (by rfl) o4 (by rfl) ((sq_drop HN.out HCA.out).kep kk4) (by unfold maxLen; omega) (by omega) kk4.size ?_
    intro v5 w5 o5 k5
    have lq : Lst w5 v5 (A.take j ++ A.drop (j + 1)) := own_lst (by rw [← HJ1.out]; simpa [flat] using o5)
    refine hK.out _ _ (by (try dsimp only); (go_split_ands; exact ⟨Kep.holds k5 hgl (by assumption), Kep.trans (by assumption) k5⟩)) (fun hH2 => ?_)
    clear hK K hH; have hH := hH2; clear hH2
    try simp only [Act.put, List.setIfInBounds_toArray, List.set_cons_zero, List.set_cons_succ]
    refine wpAnyH_ready (rs := [10]) (by kernel_rfl) (by simp) ?_
    refine AllReadyH.cons (o := ⟨some 53, .call { callee := .value (.func 10), args := #[.tmp 52], argTypes := #[22] }, _, _, _, none⟩) rfl (fun K hK => ?_) AllReadyH.nil
    go_simp
    refine (O.all _ (A.take j ++ A.drop (j + 1)) _ (F0.kep (kep_next G0.out hH.2)) lq HVG.out).mono ?_; rintro e v6_10 ⟨v6, n6, rfl, ⟨q6, -⟩, g⟩
    refine hK.out _ _ (by (try dsimp only); (go_split_ands; exact ⟨Kep.all g (by assumption), kep_next (by assumption) g⟩)) (fun hH2 => ?_)
    clear hK K hH; have hH := hH2; clear hH2
    refine rtk 11 (oi := ⟨some 42, .move (.tmp 53), _, _, _, none⟩) (v := ?_) rfl ?_ hH ?_
    rotate_left
    · (intro w hSw; (try dsimp only at hSw); go_simp; (try with_reducible rfl))
    refine rtk 12 (oi := ⟨some 54, .extract (.tmp 42) 0, _, _, _, none⟩) (v := ?_) rfl ?_ hH ?_
    rotate_left
    · (intro w hSw; (try dsimp only at hSw); go_simp; (try with_reducible rfl))
    refine rtk 13 (oi := ⟨some 55, .extract (.tmp 42) 1, _, _, _, none⟩) (v := ?_) rfl ?_ hH ?_
    rotate_left
    · (intro w hSw; (try dsimp only at hSw); go_simp; (try with_reducible rfl))
    refine rtk 14 (oi := ⟨some 10, .assign (.tmp 54), _, _, _, none⟩) (v := ?_) rfl ?_ hH ?_
    rotate_left
    · (intro w hSw; (try dsimp only at hSw); go_simp; (try with_reducible rfl))
    refine rtk 15 (oi := ⟨some 11, .assign (.tmp 55), _, _, _, none⟩) (v := ?_) rfl ?_ hH ?_
    rotate_left
    · (intro w hSw; (try dsimp only at hSw); go_simp; (try with_reducible rfl))
    try simp only [Act.put, List.setIfInBounds_toArray, List.set_cons_zero, List.set_cons_succ]
    refine wpAnyH_done (by kernel_rfl) ?_ _
    refine NoPanic.normal ?_
    clear s0 gg
    obtain ⟨s0, gg⟩ := hH
    rw [HPG.out] at q6
    clear lq o5 o4 k4 k5 kk4 HCA e1 e2 i1 i2 i3 i4 i5 i6 i7
    obtain ⟨w7, hw7⟩ : ∃ x, x = v6_10 := ⟨_, rfl⟩
    rw [← hw7] at q6 s0 gg ⊢
    clear hw7
    have hq3 := HQ3.out.kep gg
    have l7 := HL.out.kep gg
    have HL7 := Lib.hid l7
    have G7 := Lib.hid gg
    obtain ⟨C, hC⟩ : ∃ C, C = consL A := ⟨_, rfl⟩
    rw [← hC] at hq3 q6 HLO HWR hpm
    have CW0 := O.with_ _ C xk w7 hq3 (by omega)
    obtain ⟨bc, cc, rfl, hc⟩ := hq3
    obtain ⟨wl, hwl⟩ : ∃ wl, wl = (withC C xk).length := ⟨_, rfl⟩
    have CW : Hid (Calls Tryz.prog 14 #[.slice bc C.length cc, .int .u32 xk] w7 fun e w' => ∃ b c, e = .returned (.slice b wl c) ∧ Kep w7.heap.size w7 w') := Lib.hid (CW0.mono (by
      rintro e w' ⟨v', rfl, q, g⟩
      obtain ⟨b, c, rfl⟩ := q.shape
      exact ⟨b, c, by rw [hwl], g⟩))
    rw [← hwl] at HLO HWR
    have jl : (j : Int) < (na : Int) := by omega
    have j0 : (0 : Int) ≤ (j : Int) := by omega
    have hc7 := Lib.hid hc
    have HQ6 := Lib.hid q6
    clear CW0 hwl hC hc q6 gg l7
    generalize hnc : C.length = nc at *
    have HNC := Lib.hid hnc
    clear hnc
    go_wp2_with ((with_reducible refine (CW.out).mono ?_); rintro e w8 ⟨bw, cw, rfl, g8⟩)
    have HC : Hid (∀ (k : Nat) (x : Ct), C[k]? = some x → ∃ g' off', bc = some ⟨g', off', none⟩ ∧ ∀ (i : Nat) (u : Value), (ctv x)[i]? = some u → w8.cell? ⟨g', off' + k * 5 + i, none⟩ = some u) := Lib.hid fun k x hx => by
      obtain ⟨g', off', e, q⟩ := hc7.out k x hx
      exact ⟨g', off', e, fun i u hu => g8.all (q i u hu)⟩
    have HS8 := Lib.hid (g8.all s0)
    replace HQ6 := Lib.hid (HQ6.out.kep g8)
    have HL8 := Lib.hid (HL7.out.kep g8)
    have G8 := Lib.hid (kep_next G7.out g8)
    clear s0 g8 CW hc7 HL7 G7
    go_loopw [13, 14] (fun out i wr => ∃ k : Nat, k ≤ nc ∧ i = .int .i64 k ∧ Hid (wr.ownsRow w8.heap.size 35 5 out (restC xk (C.take k)).length ((restC xk (C.take k)).flatMap ctv) ∧ Kep w8.heap.size w8 wr)) (fun _ i _ => nc - (RowKit.intOf i).toNat)
    case atStart => exact ⟨0, by omega, rfl, Lib.hid ⟨World.ownsRow_nil _ _ _ _, Kep.refl _ _⟩⟩
    case round =>
      obtain ⟨k, hk, rfl, HP⟩ := hrel
      have gg := HP.out.2
      have HO := Lib.hid HP.out.1
      have s0 := gg.all HS8.out
      by_cases hlt : k < nc
      · have hb : C[k]? = some (C[k]'(by rw [HNC.out]; exact hlt)) := List.getElem?_eq_getElem _
        generalize C[k]'(by rw [HNC.out]; exact hlt) = c at hb
        obtain ⟨gp, op, rfl, q⟩ := HC.out k c hb
        have t0 : wr.cell? ⟨gp, op + k * 5, none⟩ = some (.int .u32 c.lo) := gg.all (q 0 _ rfl)
        have t1 : wr.cell? ⟨gp, op + k * 5 + 1, none⟩ = some (.int .u32 c.hi) := gg.all (q 1 _ rfl)
        have t2 : wr.cell? ⟨gp, op + k * 5 + 2, none⟩ = some (.int .i32 c.nx) := gg.all (q 2 _ rfl)
        have t3 : wr.cell? ⟨gp, op + k * 5 + 3, none⟩ = some (.int .i32 c.ny) := gg.all (q 3 _ rfl)
        have t4 : wr.cell? ⟨gp, op + k * 5 + 4, none⟩ = some (.int .i32 c.dp) := gg.all (q 4 _ rfl)
        have HB := Lib.hid (restC_at (xk := xk) hb)
        have HWL : Hid ((restC xk (C.take k)).length ≤ 780) := Lib.hid (by have := restC_len xk (C.take k); have := List.length_take_le k C; have := HNC.out; omega)
        clear hb q HP
        by_cases hl : c.lo = xk
        · rw [hl] at t0 HB
          have q1 : (xk != xk) = false := by simp
          have HB2 : Hid (restC xk (C.take (k + 1)) = restC xk (C.take k)) := Lib.hid (by rw [HB.out, q1]; simp)
          clear hl HB
          go_wp2_with fail
          refine wp_region_noPanic ?_
          refine wp_region_held_drew (S := (fun w' => w'.cell? ⟨gp, op + k * 5, none⟩ = some (.int .u32 xk) ∧ w'.cell? ⟨gp, op + k * 5 + 1, none⟩ = some (.int .u32 c.hi) ∧ w'.cell? ⟨gp, op + k * 5 + 2, none⟩ = some (.int .i32 c.nx) ∧ w'.cell? ⟨gp, op + k * 5 + 3, none⟩ = some (.int .i32 c.ny) ∧ w'.cell? ⟨gp, op + k * 5 + 4, none⟩ = some (.int .i32 c.dp) ∧ w'.cell? ⟨gl, off + j * 10, none⟩ = some (.int .u32 xk) ∧ Kep w8.heap.size w8 w')) (by kernel_rfl) (⟨by rw [World.cell?_drew]; exact t0, by rw [World.cell?_drew]; exact t1, by rw [World.cell?_drew]; exact t2, by rw [World.cell?_drew]; exact t3, by rw [World.cell?_drew]; exact t4, by rw [World.cell?_drew]; exact s0, kep_drew gg⟩) (fun hH => ?_)
          refine rtk 0 (oi := ⟨some 69, .move (.tmp 8), _, _, _, none⟩) (v := ?_) rfl ?_ hH ?_
          rotate_left
          · (intro w hSw; (try dsimp only at hSw); go_simp; (try with_reducible rfl))
          refine rtk 1 (oi := ⟨some 70, .move (.tmp 14), _, _, _, none⟩) (v := ?_) rfl ?_ hH ?_
          rotate_left
          · (intro w hSw; (try dsimp only at hSw); go_simp; (try with_reducible rfl))
          refine rtk 2 (oi := ⟨some 71, .indexAddr 23 (.tmp 69) (.tmp 70), _, _, _, none⟩) (v := ?_) rfl ?_ hH ?_
          rotate_left
          · (intro w hSw; (try dsimp only at hSw); go_simp; (try with_reducible rfl))
          refine rtk 3 (oi := ⟨some 72, .fieldAddr 35 (.tmp 71) 0, _, _, _, none⟩) (v := ?_) rfl ?_ hH ?_
          rotate_left
          · (intro w hSw; (try dsimp only at hSw); go_simp; (try with_reducible rfl))
          refine rtk 4 (oi := ⟨some 73, .fieldAddr 31 (.tmp 72) 0, _, _, _, none⟩) (v := ?_) rfl ?_ hH ?_
          rotate_left
          · (intro w hSw; (try dsimp only at hSw); go_simp; (try with_reducible rfl))
          refine rtk 5 (oi := ⟨some 74, .load 24 (.tmp 73), _, _, _, none⟩) (v := ?_) rfl ?_ hH ?_
          rotate_left
          · (intro w hSw; (try dsimp only at hSw); go_simp; (try with_reducible rfl))
          refine rtk 6 (oi := ⟨some 75, .move (.tmp 5), _, _, _, none⟩) (v := ?_) rfl ?_ hH ?_
          rotate_left
          · (intro w hSw; (try dsimp only at hSw); go_simp; (try with_reducible rfl))
          refine rtk 7 (oi := ⟨some 76, .move (.tmp 7), _, _, _, none⟩) (v := ?_) rfl ?_ hH ?_
          rotate_left
          · (intro w hSw; (try dsimp only at hSw); go_simp; (try with_reducible rfl))
          refine rtk 8 (oi := ⟨some 77, .indexAddr 22 (.tmp 75) (.tmp 76), _, _, _, none⟩) (v := ?_) rfl ?_ hH ?_
          rotate_left
          · (intro w hSw; (try dsimp only at hSw); go_simp; (try with_reducible rfl))
          refine rtk 9 (oi := ⟨some 78, .fieldAddr 46 (.tmp 77) 0, _, _, _, none⟩) (v := ?_) rfl ?_ hH ?_
          rotate_left
          · (intro w hSw; (try dsimp only at hSw); go_simp; (try with_reducible rfl))
          refine rtk 10 (oi := ⟨some 79, .load 24 (.tmp 78), _, _, _, none⟩) (v := ?_) rfl ?_ hH ?_
          rotate_left
          · (intro w hSw; (try dsimp only at hSw); go_simp; (try with_reducible rfl))
          refine rtk 11 (oi := ⟨some 80, .binOp .neq 24 (.tmp 74) (.tmp 79) 24, _, _, _, none⟩) (v := ?_) rfl ?_ hH ?_
          rotate_left
          · (intro w hSw; (try dsimp only at hSw); go_simp; (try with_reducible rfl))
          refine rtk 12 (oi := ⟨some 81, .move (.tmp 80), _, _, _, none⟩) (v := ?_) rfl ?_ hH ?_
          rotate_left
          · (intro w hSw; (try dsimp only at hSw); go_simp; (try with_reducible rfl))
          try simp only [Act.put, List.setIfInBounds_toArray, List.set_cons_zero, List.set_cons_succ]
          refine rtu 13 (oi := ⟨some 82, .move (.tmp 8), _, _, _, some (12, true)⟩) rfl hH ?_
          try simp only [Act.put, List.setIfInBounds_toArray, List.set_cons_zero, List.set_cons_succ]
          refine rtu 14 (oi := ⟨some 83, .move (.tmp 14), _, _, _, some (12, true)⟩) rfl hH ?_
          try simp only [Act.put, List.setIfInBounds_toArray, List.set_cons_zero, List.set_cons_succ]
          refine rtu 15 (oi := ⟨some 84, .indexAddr 23 (.tmp 82) (.tmp 83), _, _, _, some (12, true)⟩) rfl hH ?_
          try simp only [Act.put, List.setIfInBounds_toArray, List.set_cons_zero, List.set_cons_succ]
          refine rtu 16 (oi := ⟨some 85, .fieldAddr 35 (.tmp 84) 0, _, _, _, some (12, true)⟩) rfl hH ?_
          try simp only [Act.put, List.setIfInBounds_toArray, List.set_cons_zero, List.set_cons_succ]
          refine rtu 17 (oi := ⟨some 86, .fieldAddr 31 (.tmp 85) 1, _, _, _, some (12, true)⟩) rfl hH ?_
          try simp only [Act.put, List.setIfInBounds_toArray, List.set_cons_zero, List.set_cons_succ]
          refine rtu 18 (oi := ⟨some 87, .load 24 (.tmp 86), _, _, _, some (12, true)⟩) rfl hH ?_
          try simp only [Act.put, List.setIfInBounds_toArray, List.set_cons_zero, List.set_cons_succ]
          refine rtu 19 (oi := ⟨some 88, .move (.tmp 5), _, _, _, some (12, true)⟩) rfl hH ?_
          try simp only [Act.put, List.setIfInBounds_toArray, List.set_cons_zero, List.set_cons_succ]
          refine rtu 20 (oi := ⟨some 89, .move (.tmp 7), _, _, _, some (12, true)⟩) rfl hH ?_
          try simp only [Act.put, List.setIfInBounds_toArray, List.set_cons_zero, List.set_cons_succ]
          refine rtu 21 (oi := ⟨some 90, .indexAddr 22 (.tmp 88) (.tmp 89), _, _, _, some (12, true)⟩) rfl hH ?_
          try simp only [Act.put, List.setIfInBounds_toArray, List.set_cons_zero, List.set_cons_succ]
          refine rtu 22 (oi := ⟨some 91, .fieldAddr 46 (.tmp 90) 0, _, _, _, some (12, true)⟩) rfl hH ?_
          try simp only [Act.put, List.setIfInBounds_toArray, List.set_cons_zero, List.set_cons_succ]
          refine rtu 23 (oi := ⟨some 92, .load 24 (.tmp 91), _, _, _, some (12, true)⟩) rfl hH ?_
          try simp only [Act.put, List.setIfInBounds_toArray, List.set_cons_zero, List.set_cons_succ]
          refine rtu 24 (oi := ⟨some 93, .binOp .neq 24 (.tmp 87) (.tmp 92) 24, _, _, _, some (12, true)⟩) rfl hH ?_
          refine rtk 25 (oi := ⟨some 94, .pick (.tmp 81) (.tmp 93) (.const (Value.bool false)), _, _, _, none⟩) (v := ?_) rfl ?_ hH ?_
          rotate_left
          · (intro w hSw; (try dsimp only at hSw); go_simp; (try with_reducible rfl))
          try simp only [Act.put, List.setIfInBounds_toArray, List.set_cons_zero, List.set_cons_succ]
          refine wpAnyH_done (by kernel_rfl) ?_ _
          refine NoPanic.normal ?_
          clear t0 t1 t2 t3 t4 s0 gg
          obtain ⟨t0, t1, t2, t3, t4, s0, gg⟩ := hH
          go_wp2_with fail
          go_roundw
          case rel => exact ⟨k + 1, by omega, by go_num, Lib.hid ⟨by rw [HB2.out]; exact HO.out, gg⟩⟩
          case measure => simp [RowKit.intOf]; omega
        · have q1 : (c.lo != xk) = true := bne_iff_ne.2 hl
          obtain ⟨z2, hz2⟩ : ∃ z2, (c.hi != xk) = z2 := ⟨_, rfl⟩
          have HB2 : Hid (restC xk (C.take (k + 1)) = restC xk (C.take k) ++ (if z2 = true then [c] else [])) := Lib.hid (by rw [HB.out, q1, hz2]; rfl)
          clear hl HB
          go_wp2_with fail
          refine wp_region_noPanic ?_
          refine wp_region_held_drew (S := (fun w' => w'.cell? ⟨gp, op + k * 5, none⟩ = some (.int .u32 c.lo) ∧ w'.cell? ⟨gp, op + k * 5 + 1, none⟩ = some (.int .u32 c.hi) ∧ w'.cell? ⟨gp, op + k * 5 + 2, none⟩ = some (.int .i32 c.nx) ∧ w'.cell? ⟨gp, op + k * 5 + 3, none⟩ = some (.int .i32 c.ny) ∧ w'.cell? ⟨gp, op + k * 5 + 4, none⟩ = some (.int .i32 c.dp) ∧ w'.cell? ⟨gl, off + j * 10, none⟩ = some (.int .u32 xk) ∧ Kep w8.heap.size w8 w')) (by kernel_rfl) (⟨by rw [World.cell?_drew]; exact t0, by rw [World.cell?_drew]; exact t1, by rw [World.cell?_drew]; exact t2, by rw [World.cell?_drew]; exact t3, by rw [World.cell?_drew]; exact t4, by rw [World.cell?_drew]; exact s0, kep_drew gg⟩) (fun hH => ?_)
          refine rtk 0 (oi := ⟨some 69, .move (.tmp 8), _, _, _, none⟩) (v := ?_) rfl ?_ hH ?_
          rotate_left
          · (intro w hSw; (try dsimp only at hSw); go_simp; (try with_reducible rfl))
          refine rtk 1 (oi := ⟨some 70, .move (.tmp 14), _, _, _, none⟩) (v := ?_) rfl ?_ hH ?_
          rotate_left
          · (intro w hSw; (try dsimp only at hSw); go_simp; (try with_reducible rfl))
          refine rtk 2 (oi := ⟨some 71, .indexAddr 23 (.tmp 69) (.tmp 70), _, _, _, none⟩) (v := ?_) rfl ?_ hH ?_
          rotate_left
          · (intro w hSw; (try dsimp only at hSw); go_simp; (try with_reducible rfl))
          refine rtk 3 (oi := ⟨some 72, .fieldAddr 35 (.tmp 71) 0, _, _, _, none⟩) (v := ?_) rfl ?_ hH ?_
          rotate_left
          · (intro w hSw; (try dsimp only at hSw); go_simp; (try with_reducible rfl))
          refine rtk 4 (oi := ⟨some 73, .fieldAddr 31 (.tmp 72) 0, _, _, _, none⟩) (v := ?_) rfl ?_ hH ?_
          rotate_left
          · (intro w hSw; (try dsimp only at hSw); go_simp; (try with_reducible rfl))
          refine rtk 5 (oi := ⟨some 74, .load 24 (.tmp 73), _, _, _, none⟩) (v := ?_) rfl ?_ hH ?_
          rotate_left
          · (intro w hSw; (try dsimp only at hSw); go_simp; (try with_reducible rfl))
          refine rtk 6 (oi := ⟨some 75, .move (.tmp 5), _, _, _, none⟩) (v := ?_) rfl ?_ hH ?_
          rotate_left
          · (intro w hSw; (try dsimp only at hSw); go_simp; (try with_reducible rfl))
          refine rtk 7 (oi := ⟨some 76, .move (.tmp 7), _, _, _, none⟩) (v := ?_) rfl ?_ hH ?_
          rotate_left
          · (intro w hSw; (try dsimp only at hSw); go_simp; (try with_reducible rfl))
          refine rtk 8 (oi := ⟨some 77, .indexAddr 22 (.tmp 75) (.tmp 76), _, _, _, none⟩) (v := ?_) rfl ?_ hH ?_
          rotate_left
          · (intro w hSw; (try dsimp only at hSw); go_simp; (try with_reducible rfl))
          refine rtk 9 (oi := ⟨some 78, .fieldAddr 46 (.tmp 77) 0, _, _, _, none⟩) (v := ?_) rfl ?_ hH ?_
          rotate_left
          · (intro w hSw; (try dsimp only at hSw); go_simp; (try with_reducible rfl))
          refine rtk 10 (oi := ⟨some 79, .load 24 (.tmp 78), _, _, _, none⟩) (v := ?_) rfl ?_ hH ?_
          rotate_left
          · (intro w hSw; (try dsimp only at hSw); go_simp; (try with_reducible rfl))
          refine rtk 11 (oi := ⟨some 80, .binOp .neq 24 (.tmp 74) (.tmp 79) 24, _, _, _, none⟩) (v := ?_) rfl ?_ hH ?_
          rotate_left
          · (intro w hSw; (try dsimp only at hSw); go_simp; (try with_reducible rfl))
          refine rtk 12 (oi := ⟨some 81, .move (.tmp 80), _, _, _, none⟩) (v := ?_) rfl ?_ hH ?_
          rotate_left
          · (intro w hSw; (try dsimp only at hSw); go_simp; (try with_reducible rfl))
          try simp only [Act.put, List.setIfInBounds_toArray, List.set_cons_zero, List.set_cons_succ]
          refine rtk 13 (oi := ⟨some 82, .move (.tmp 8), _, _, _, some (12, true)⟩) (v := ?_) rfl ?_ hH ?_
          rotate_left
          · (intro w hSw; (try dsimp only at hSw); go_simp; (try with_reducible rfl))
          try simp only [Act.put, List.setIfInBounds_toArray, List.set_cons_zero, List.set_cons_succ]
          refine rtk 14 (oi := ⟨some 83, .move (.tmp 14), _, _, _, some (12, true)⟩) (v := ?_) rfl ?_ hH ?_
          rotate_left
          · (intro w hSw; (try dsimp only at hSw); go_simp; (try with_reducible rfl))
          try simp only [Act.put, List.setIfInBounds_toArray, List.set_cons_zero, List.set_cons_succ]
          refine rtk 15 (oi := ⟨some 84, .indexAddr 23 (.tmp 82) (.tmp 83), _, _, _, some (12, true)⟩) (v := ?_) rfl ?_ hH ?_
          rotate_left
          · (intro w hSw; (try dsimp only at hSw); go_simp; (try with_reducible rfl))
          try simp only [Act.put, List.setIfInBounds_toArray, List.set_cons_zero, List.set_cons_succ]
          refine rtk 16 (oi := ⟨some 85, .fieldAddr 35 (.tmp 84) 0, _, _, _, some (12, true)⟩) (v := ?_) rfl ?_ hH ?_
          rotate_left
          · (intro w hSw; (try dsimp only at hSw); go_simp; (try with_reducible rfl))
          try simp only [Act.put, List.setIfInBounds_toArray, List.set_cons_zero, List.set_cons_succ]
          refine rtk 17 (oi := ⟨some 86, .fieldAddr 31 (.tmp 85) 1, _, _, _, some (12, true)⟩) (v := ?_) rfl ?_ hH ?_
          rotate_left
          · (intro w hSw; (try dsimp only at hSw); go_simp; (try with_reducible rfl))
          try simp only [Act.put, List.setIfInBounds_toArray, List.set_cons_zero, List.set_cons_succ]
          refine rtk 18 (oi := ⟨some 87, .load 24 (.tmp 86), _, _, _, some (12, true)⟩) (v := ?_) rfl ?_ hH ?_
          rotate_left
          · (intro w hSw; (try dsimp only at hSw); go_simp; (try with_reducible rfl))
          try simp only [Act.put, List.setIfInBounds_toArray, List.set_cons_zero, List.set_cons_succ]
          refine rtk 19 (oi := ⟨some 88, .move (.tmp 5), _, _, _, some (12, true)⟩) (v := ?_) rfl ?_ hH ?_
          rotate_left
          · (intro w hSw; (try dsimp only at hSw); go_simp; (try with_reducible rfl))
          try simp only [Act.put, List.setIfInBounds_toArray, List.set_cons_zero, List.set_cons_succ]
          refine rtk 20 (oi := ⟨some 89, .move (.tmp 7), _, _, _, some (12, true)⟩) (v := ?_) rfl ?_ hH ?_
          rotate_left
          · (intro w hSw; (try dsimp only at hSw); go_simp; (try with_reducible rfl))
          try simp only [Act.put, List.setIfInBounds_toArray, List.set_cons_zero, List.set_cons_succ]
          refine rtk 21 (oi := ⟨some 90, .indexAddr 22 (.tmp 88) (.tmp 89), _, _, _, some (12, true)⟩) (v := ?_) rfl ?_ hH ?_
          rotate_left
          · (intro w hSw; (try dsimp only at hSw); go_simp; (try with_reducible rfl))
          try simp only [Act.put, List.setIfInBounds_toArray, List.set_cons_zero, List.set_cons_succ]
          refine rtk 22 (oi := ⟨some 91, .fieldAddr 46 (.tmp 90) 0, _, _, _, some (12, true)⟩) (v := ?_) rfl ?_ hH ?_
          rotate_left
          · (intro w hSw; (try dsimp only at hSw); go_simp; (try with_reducible rfl))
          try simp only [Act.put, List.setIfInBounds_toArray, List.set_cons_zero, List.set_cons_succ]
          refine rtk 23 (oi := ⟨some 92, .load 24 (.tmp 91), _, _, _, some (12, true)⟩) (v := ?_) rfl ?_ hH ?_
          rotate_left
          · (intro w hSw; (try dsimp only at hSw); go_simp; (try with_reducible rfl))
          try simp only [Act.put, List.setIfInBounds_toArray, List.set_cons_zero, List.set_cons_succ]
          refine rtk 24 (oi := ⟨some 93, .binOp .neq 24 (.tmp 87) (.tmp 92) 24, _, _, _, some (12, true)⟩) (v := ?_) rfl ?_ hH ?_
          rotate_left
          · (intro w hSw; (try dsimp only at hSw); go_simp; (try with_reducible rfl))
          refine rtk 25 (oi := ⟨some 94, .pick (.tmp 81) (.tmp 93) (.const (Value.bool false)), _, _, _, none⟩) (v := ?_) rfl ?_ hH ?_
          rotate_left
          · (intro w hSw; (try dsimp only at hSw); go_simp; (try with_reducible rfl))
          try simp only [Act.put, List.setIfInBounds_toArray, List.set_cons_zero, List.set_cons_succ]
          refine wpAnyH_done (by kernel_rfl) ?_ _
          refine NoPanic.normal ?_
          clear t0 t1 t2 t3 t4 s0 gg
          obtain ⟨t0, t1, t2, t3, t4, s0, gg⟩ := hH
          clear hz2 q1
          have HO2 := Lib.hid (World.ownsRow.drew HO.out)
          obtain ⟨wq, hwq⟩ : ∃ x, x = wr.drew := ⟨_, rfl⟩
          rw [← hwq] at HO2 s0 t0 t1 t2 t3 t4 gg ⊢
          clear hwq HO
          cases z2
          · go_wp2_with fail
            go_roundw
            case rel => exact ⟨k + 1, by omega, by go_num, Lib.hid ⟨by have := HB2.out; rw [this]; simpa using HO2.out, gg⟩⟩
            case measure => simp [RowKit.intOf]; omega
          · go_wp2_with (first
              | (at_builtin; refine wpList_app ctv 5 ctv_len ctv_one rfl _ _ 23 rfl 35 _ 20 Tryz.underlying23 info_con rfl (by decide) w8.heap.size _ _ (restC xk (C.take k)) c rfl HO2.out _ (by first | rfl | simp) rfl _ rfl (by have := HWL.out; unfold maxLen; omega) (by have := HWL.out; omega) gg.size ?_; intro v8 w9 o8 k8))
            have HM : Hid (w9.ownsRow w8.heap.size 35 5 v8 (restC xk (C.take (k + 1))).length ((restC xk (C.take (k + 1))).flatMap ctv) ∧ Kep w8.heap.size w8 w9) := Lib.hid ⟨by rw [HB2.out, if_pos rfl]; exact o8, gg.trans k8⟩
            clear o8 k8
            go_roundw
            case rel => exact ⟨k + 1, by omega, by go_num, HM⟩
            case measure => simp [RowKit.intOf]; omega
      · obtain rfl : k = nc := by omega
        have h1 := HP.out.1
        rw [List.take_of_length_le (by rw [HNC.out]; omega)] at h1
        have oq := own_sq ctv_len h1
        obtain ⟨b9, c9, rfl⟩ := oq.shape
        have q6 := HQ6.out.kep gg
        have l1 := HL8.out.kep gg
        have hwl := restC_len xk C
        have hnc := HNC.out
        obtain ⟨z, hz⟩ : ∃ z, lonB A xk = z := ⟨_, rfl⟩
        have HLN := Lib.hid (fun v w h => (show Calls Tryz.prog 19 #[v, .int .u32 xk] w fun e w' => e = .returned (.bool z) ∧ Kep w.heap.size w w' by rw [← hz]; exact rpl A xk (by have := HVW.out.len; omega) (Lib.hid HVW.out.ok) HVW.out.asc v w h))
        rw [hz] at HLO
        obtain ⟨rl, hrl⟩ : ∃ r, r = (restC xk C).length := ⟨_, rfl⟩
        rw [← hrl] at HWR
        have hsum := HWR.out
        have e1 := (sum_w64 hsum (Nat.le_trans hpm (by decide))).1
        have e2 := (sum_w64 hsum (Nat.le_trans hpm (by decide))).2
        have hrm : (restC xk C).length ≤ 1000000000 := Nat.le_trans hwl (by rw [hnc]; exact Nat.le_trans hpm (by decide))
        have HS := Lib.hid (fun w h1 h2 => rks (restC xk C) hrm v6 (.slice b9 rl c9) w h1 h2)
        have oq2 : Sq ctv 5 wr (.slice b9 rl c9) (restC xk C) := by rw [hrl]; exact oq
        rw [← hrl]
        have gw := kep_next (kep_next G0.out G8.out) gg
        clear h1 oq hz HP hrl gg hwl hnc hsum hrm
        have HZW : Hid (z = true → wl = 0) := HLO
        cases z with
        | false =>
          go_wp2_with (first
            | ((with_reducible refine (HS.out _ q6 oq2).mono ?_); rintro e w10 ⟨rfl, g10⟩
               replace s0 := g10.all s0
               replace l1 := l1.kep g10
               replace gw := kep_next gw g10)
            | ((with_reducible refine (HLN.out _ _ l1).mono ?_); rintro e w11 ⟨rfl, g11⟩
               replace gw := kep_next gw g11))
          go_ret
          exact ⟨rfl, gw⟩
        | true =>
          obtain rfl : wl = 0 := HZW.out rfl
          have hrk : rl = k := (Nat.zero_add rl).symm.trans HWR.out
          subst hrk
          clear e1 e2
          go_wp2_with (first
            | ((with_reducible refine (HS.out _ q6 oq2).mono ?_); rintro e w10 ⟨rfl, g10⟩
               replace s0 := g10.all s0
               replace l1 := l1.kep g10
               replace gw := kep_next gw g10)
            | ((with_reducible refine (HLN.out _ _ l1).mono ?_); rintro e w11 ⟨rfl, g11⟩
               replace gw := kep_next gw g11))
          go_ret
          exact ⟨rfl, gw⟩
/-- The law ContactsLonely. -/
theorem cyl_law (O : COps) (AW : CAwake) (t : Int) (ht : 0 ≤ t ∧ t < 256) (L : List Bd) (v : Value) (w : World) (F0 : Fac w) (hq : Lst w v L) (HF : ∀ x ∈ L, Fits x) : Calls Tryz.prog 5 #[v, .int .u8 t] w fun e w' => e = .returned (.bool true) ∧ Kep w.heap.size w w' := by
  cases hvw : viwB L
  · exact cyl_bad (Lib.hid AW) t L v w F0 hq hvw
  · cases hA : sortL L with
    | nil => exact cyl_nil (Lib.hid AW) t L v w F0 hq (Lib.hid HF) hvw hA
    | cons a l =>
      have hp : 0 < (sortL L).length := by rw [hA]; simp
      have h1 := Int.emod_nonneg t (show ((sortL L).length : Int) ≠ 0 by omega)
      have h2 := Int.emod_lt_of_pos t (show (0 : Int) < ((sortL L).length : Int) by omega)
      exact cyl_ok O (Lib.hid AW) t ht L v w F0 hq (Lib.hid HF) hvw (t % ((sortL L).length : Int)).toNat (by omega) (by omega)
end Go.Proofs.YtangalkbjochjaaGreatDoor
