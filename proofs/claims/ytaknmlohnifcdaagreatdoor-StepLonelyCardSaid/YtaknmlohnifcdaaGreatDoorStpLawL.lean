/-
  Package step: the law StepLonely.
-/
import Derived.Test.YtaknmlohnifcdaaGreatDoorJ19CtsMath
import Derived.Test.YtaknmlohnifcdaaGreatDoorStpMath2
import Derived.Test.YtaknmlohnifcdaaGreatDoorJ06StorePut
import Derived.Test.YtaknmlohnifcdaaGreatDoorJ18ViewMath
import Derived.Test.YtaknmlohnifcdaaGreatDoorJ02Seq
import Derived.Deep.DeepCutAuto
import Derived.Laws.OwnMore
import Derived.Deep.QuietTactic
import Derived.BigQuiet
namespace Go.Proofs.YtaknmlohnifcdaaGreatDoor
open Go.RowKit Go.Lib

theorem info_stats : (Tryz.prog.info? 27).map (fun i => (i.zero, i.size, i.bytes)) = some (some (.agg #[.int .i64 0, .int .i64 0, .bool false]), 3, 24) := by kernel_rfl
theorem bl_from (b : Option Addr) (n c k : Nat) (h : k ≤ n) (w : World) : (Instr.slice 22 (.slice b n c) (some (.int .i64 (k : Int))) none none).run Tryz.prog w = .ok (sliced b k n c 10) w := by
  have h0 : (0 : Int) ≤ (k : Int) := Int.natCast_nonneg _
  have h1 : (k : Int) ≤ (n : Int) := by omega
  simp [go_sem, h0, h1, Tryz.underlying22, sliced]
theorem bl_till (b : Option Addr) (n c k : Nat) (h : k ≤ c) (w : World) : (Instr.slice 22 (.slice b n c) none (some (.int .i64 (k : Int))) none).run Tryz.prog w = .ok (sliced b 0 k c 10) w := by
  have h0 : (0 : Int) ≤ (k : Int) := Int.natCast_nonneg _
  have h1 : (k : Int) ≤ (c : Int) := by omega
  simp [go_sem, h0, h1, Tryz.underlying22, sliced]
theorem adb_add (g off m : Nat) : (⟨g, off, none⟩ : Addr).add m = ⟨g, off + m, none⟩ := by unfold Addr.add; split <;> simp_all
theorem sqb_from {w : World} {b : Option Addr} {c k n : Nat} {C : List Bd} (hn : C.length = n) (h : Lst w (.slice b n c) C) (hk : k ≤ n) (hc : n ≤ c) : Sq vals 10 w (sliced b k n c 10) (C.drop k) := by
  subst hn
  obtain ⟨b', c', e, hq⟩ := lst_sqK h
  injection e with e1 _ e2
  subst e1 e2
  refine ⟨_, _, by unfold sliced; rw [List.length_drop], fun i x hx => ?_⟩
  rw [List.getElem?_drop] at hx
  obtain ⟨g, off, rfl, hi⟩ := hq _ x hx
  have : k + i < C.length := (List.getElem?_eq_some_iff.1 hx).1
  refine ⟨g, off + k * 10, ?_, fun j u hu => ?_⟩
  · rw [if_neg (by omega), Option.map_some, adb_add]
  · have := hi j u hu
    rw [show off + (k + i) * 10 + j = off + k * 10 + i * 10 + j by omega] at this
    exact this
theorem sqb_till {w : World} {b : Option Addr} {c k n : Nat} {C : List Bd} (hn : C.length = n) (h : Lst w (.slice b n c) C) (hk : k ≤ n) : Sq vals 10 w (sliced b 0 k c 10) (C.take k) := by
  subst hn
  obtain ⟨b', c', e, hq⟩ := lst_sqK h
  injection e with e1 _ e2
  subst e1 e2
  refine ⟨_, _, by unfold sliced; rw [List.length_take, Nat.min_eq_left hk, Nat.sub_zero], fun i x hx => ?_⟩
  have hi0 : i < k := by have := (List.getElem?_eq_some_iff.1 hx).1; rw [List.length_take] at this; omega
  rw [List.getElem?_take_of_lt hi0] at hx
  obtain ⟨g, off, rfl, hi⟩ := hq _ x hx
  refine ⟨g, off, ?_, hi⟩
  split
  · rfl
  · rw [Option.map_some, adb_add, Nat.zero_mul, Nat.add_zero]
/-- As step_appAll, with what becomes of every block but the list's own. -/
theorem step_appAll2 {α : Type} (f : α → List Value) (n : Nat) (hf : ∀ x, (f x).length = n) (h1 : ∀ x, ∀ u ∈ f x, u.oneCell' = true) {P : Program} {ops : Array Oper} {o : Oper} {a : Act} {K : Act → World → Prop} {Q : Exit → Act → World → Prop} {E : Prop} (hgd : o.guard = none) (s x : Operand) (t : TypeId)
    (ho : o.op = .call { callee := .builtin .append, args := #[s, x], argTypes := #[t, t] }) (e : TypeId) (z : Value) (bytes : Nat) (ht : P.underlying t = some (.slice e))
    (hi : (P.info? e).map (fun i => (i.zero, i.size, i.bytes)) = some (some z, n, bytes)) (hzs : z.cells.size = n) (hn : 0 < n)
    (B : Nat) (W : World) (v vx : Value) (L D : List α) (hs : a.eval s = v) (hown : W.ownsRow B e n v L.length (L.flatMap f)) (hx : a.eval x = vx) (hq : Sq f n W vx D) (hl : L.length + D.length ≤ maxLen) (hby : (L.length + D.length) * bytes ≤ 140737488355328) (hB : B ≤ W.heap.size)
    (h : ∀ v' w', w'.ownsRow B e n v' (L ++ D).length ((L ++ D).flatMap f) → Kep B W w' → W.grownBy w' v.ownBlock → K (a.put o.dst v') w') : if Region.wanted o (yielded ops a.tmps) = true then Oper.wp P o a W K Q else E := by
  have hw : Region.wanted o (yielded ops a.tmps) = true := by simp [Region.wanted, hgd]
  rw [if_pos hw]
  obtain ⟨i0, hi0, hz0, hz1, hz2⟩ := info_parts hi
  obtain ⟨base, cap, rfl⟩ := hq.shape
  cases base with
  | some ad =>
    refine wp_append_own _ s x t ho B e i0 z n bytes ht hi0 hz0 hz1 hz2 hzs hn v L.length (L.flatMap f) hs hown ad D.length cap (D.flatMap f) hx (cat_len hf D) (hq.cells hf) (fun u hu => ?_) hl hby hB fun v' w' h2 h3 _ => h v' w' ?_ ?_ h3
    · obtain ⟨y, _, hy⟩ := List.mem_flatMap.1 hu
      exact h1 y u hy
    · simpa using h2
    · exact (Kep.refl B W).row h3 hB (fun k q => (hown.lt k q).1)
  | none =>
    have hD : D = [] := by
      cases D with
      | nil => rfl
      | cons y D =>
        obtain ⟨_, _, e0, hc⟩ := hq
        injection e0 with e1
        obtain ⟨g, off, e2, _⟩ := hc 0 y rfl
        rw [← e1] at e2
        cases e2
    subst hD
    have hr : (Builtin.append_ #[t, t] o.type #[v, .slice none 0 cap]).run P W = .ok v W := by
      rcases hown.2 with ⟨rfl, _⟩ | ⟨g, cp, cur, rfl, _, _, hc, _⟩
      · simp [Builtin.append_, run_underlying ht, sizeOf, typeInfo, hi0, Builtin.lenOf, Builtin.firstCells]
      · simp [Builtin.append_, run_underlying ht, sizeOf, typeInfo, hi0, Builtin.lenOf, run_firstCells_none, storeCells, hc]
    unfold Oper.wp execOp
    simp only [ho, resolve, invoke, builtin, Sem.run_bind, Sem.run_pure, Result.andThen_ok, List.map_toArray, List.map_cons, List.map_nil, hs, hx, List.length_nil, hr]
    exact h v W (by simpa using hown) (Kep.refl _ _) ⟨rfl, rfl, rfl, Nat.le_refl _, fun _ _ _ => rfl⟩
/-- Statistics in a block of the call's own. -/
abbrev StO (w : World) (B tb : Nat) (vs : List Value) : Prop := w.ownsRow B 27 3 (.slice (some ⟨tb, 0, none⟩) 1 1) 1 vs
theorem sto_new {w : World} {B tb : Nat} (hb : B ≤ w.heap.size) (ht : tb = w.heap.size) : StO (w.alloc (.cells #[.int .i64 0, .int .i64 0, .bool false] 27)) B tb [.int .i64 0, .int .i64 0, .bool false] := by
  subst ht
  exact World.ownsRow_lit w #[.int .i64 0, .int .i64 0, .bool false] 1 hb (by decide) rfl
theorem sto_lt {w : World} {B tb : Nat} {vs : List Value} (h : StO w B tb vs) : B ≤ tb ∧ tb < w.heap.size := h.lt tb rfl
/-- A view of bodies lies apart from statistics. -/
theorem lst_sto {w : World} {v : Value} {L : List Bd} {B tb : Nat} {vs : List Value} (h : Lst w v L) (T : StO w B tb vs) (hv : vs = [.int .i64 0, .int .i64 0, .bool false]) : L = [] ∨ ∃ g off c, v = .slice (some ⟨g, off, none⟩) L.length c ∧ g ≠ tb := by
  rcases h with ⟨e, _⟩ | ⟨g, off, c, rfl, hc⟩
  · exact .inl e
  · cases L with
    | nil => exact .inl rfl
    | cons y L =>
      refine .inr ⟨g, off, c, rfl, fun e => ?_⟩
      subst e hv
      have q := hc 0 y rfl 0 (by decide)
      rcases T.2 with ⟨h', _⟩ | ⟨g', cap', cur, h', _, hg, _, _, hcs, ht⟩
      · simp at h'
      · simp only [Value.slice.injEq, Option.some.injEq, Addr.mk.injEq, and_true, true_and] at h'
        obtain ⟨rfl, rfl⟩ := h'
        rw [cell_of_row w g _ cur 27 (0, 0) hg] at q
        rw [List.take_of_length_le (by rw [Array.length_toList, hcs]; exact Nat.le_refl _)] at ht
        have e : cur = #[.int .i64 0, .int .i64 0, .bool false] := Array.ext' ht
        subst e
        rcases (show off = 0 ∨ off = 1 ∨ off = 2 ∨ 3 ≤ off by omega) with r | r | r | r
        · subst r; simp [vals] at q
        · subst r; simp [vals] at q
        · subst r; simp [vals] at q
        · rw [Array.getElem?_eq_none (by simp; omega)] at q
          simp [vals] at q
theorem lst_set3 {w : World} {v : Value} {L : List Bd} {B tb : Nat} (h : Lst w v L) (T : StO w B tb [.int .i64 0, .int .i64 0, .bool false]) (a b c : Value) : Lst (((w.setCell ⟨tb, 0, none⟩ a).setCell ⟨tb, 1, none⟩ b).setCell ⟨tb, 2, none⟩ c) v L := by
  rcases lst_sto h T rfl with rfl | ⟨g, off, cp, rfl, hn⟩
  · obtain ⟨b', c', rfl⟩ := h.shape
    exact .inl ⟨rfl, _, _, rfl⟩
  · rcases h with ⟨rfl, _⟩ | ⟨g2, off2, c2, e, hc⟩
    · exact .inl ⟨rfl, _, _, rfl⟩
    · injection e with e1 _ e2
      injection e1 with e1
      injection e1 with e3 e4
      subst e2 e3 e4
      refine .inr ⟨g, off, cp, rfl, fun k x hx i hi => ?_⟩
      rw [World.cell?_setCell_far _ _ _ _ (fun e => hn e.symm), World.cell?_setCell_far _ _ _ _ (fun e => hn e.symm), World.cell?_setCell_far _ _ _ _ (fun e => hn e.symm)]
      exact hc k x hx i hi
theorem body_eqq (x : Bd) (w : World) : (binOp .eql 40 (.agg #[.int .u32 x.k, .int .i32 x.r, .int .i32 x.ax, .int .i32 x.ay, .int .i32 x.m, .int .i32 x.o, .int .i32 x.px, .int .i32 x.py, .int .i32 x.vx, .int .i32 x.vy]) (.agg #[.int .u32 x.k, .int .i32 x.r, .int .i32 x.ax, .int .i32 x.ay, .int .i32 x.m, .int .i32 x.o, .int .i32 x.px, .int .i32 x.py, .int .i32 x.vx, .int .i32 x.vy])).run Tryz.prog w = .ok (.bool true) w := by simp [go_sem]
set_option maxRecDepth 100000 in
set_option maxHeartbeats 2000000 in
theorem tll_bad (AW : Hid TAwake) (t : Int) (L : List Bd) (v : Value) (w : World) (F0 : Fac w) (hq : Lst w v L) (hvw : viwB L = false) : Calls Tryz.prog 6 #[v, .int .u8 t] w fun e w' => e = .returned (.bool true) ∧ Kep w.heap.size w w' := by
  obtain ⟨base, cap, rfl⟩ := hq.shape
  have HQ := Lib.hid hq
  clear hq
  have VW : Hid (∀ v w, Lst w v L → Calls Tryz.prog 8 #[v] w fun e w' => ∃ v', e = .returned (.tuple #[v', .bool false]) ∧ Lst w' v' (if L.length ≤ 40 then sortL L else []) ∧ Kep w.heap.size w w') := Lib.hid (fun v w h => (rvw L v w h).mono fun e w' ⟨v', h1, h2, h3⟩ => ⟨v', by rw [h1, hvw], h2.1, h3⟩)
  go_enter Tryz.func6, Tryz.ntmps6
  go_wp2_with (first
    | ((with_reducible refine (VW.out _ _ (HQ.out.kep (Kep.refl _ _))).mono ?_); rintro e w1 ⟨v1, rfl, l1, g1⟩
       have gg := kep_next (Kep.refl _ _) g1)
    | ((with_reducible refine (AW.out _ (F0.kep (by (repeat (first | with_reducible assumption | refine kep_more ?_ _ | refine kep_drew ?_ | exact Kep.refl _ _))))).mono ?_); rintro e w2 ⟨rfl, g2⟩
       replace gg := kep_next gg g2
       replace l1 := l1.kep g2))
  go_ret
  exact ⟨rfl, gg⟩
set_option maxRecDepth 100000 in
set_option maxHeartbeats 2000000 in
theorem tll_nil (AW : Hid TAwake) (t : Int) (L : List Bd) (v : Value) (w : World) (F0 : Fac w) (hq : Lst w v L) (HF : Hid (∀ x ∈ L, Fits x)) (hvw : viwB L = true) (hA : sortL L = []) : Calls Tryz.prog 6 #[v, .int .u8 t] w fun e w' => e = .returned (.bool true) ∧ Kep w.heap.size w w' := by
  obtain ⟨base, cap, rfl⟩ := hq.shape
  have HQ := Lib.hid hq
  clear hq
  have VW : Hid (∀ v w, Lst w v L → Calls Tryz.prog 8 #[v] w fun e w' => ∃ v', e = .returned (.tuple #[v', .bool true]) ∧ Lst w' v' [] ∧ Kep w.heap.size w w') := Lib.hid (fun v w h => (rvw L v w h).mono fun e w' ⟨v', h1, h2, h3⟩ => ⟨v', by rw [h1]; rw [hvw], by have := h2.1; rw [if_pos (vw_of hvw HF.out).1, hA] at this; exact this, h3⟩)
  go_enter Tryz.func6, Tryz.ntmps6
  go_wp2_with (first
    | ((with_reducible refine (VW.out _ _ (HQ.out.kep (Kep.refl _ _))).mono ?_); rintro e w1 ⟨v1, rfl, l1, g1⟩
       have gg := kep_next (Kep.refl _ _) g1
       obtain ⟨b1, c1, rfl⟩ := l1.shape; have z0 : (([] : List Bd).length : Int) = 0 := rfl)
    | ((with_reducible refine (AW.out _ (F0.kep (by (repeat (first | with_reducible assumption | refine kep_more ?_ _ | refine kep_drew ?_ | exact Kep.refl _ _))))).mono ?_); rintro e w2 ⟨rfl, g2⟩
       replace gg := kep_next gg g2
       replace l1 := l1.kep g2))
  go_ret
  exact ⟨rfl, gg⟩
set_option maxRecDepth 100000 in
set_option maxHeartbeats 4000000 in
theorem tll_no (_ : TOps) (AW : Hid TAwake) (t : Int) (ht : 0 ≤ t ∧ t < 256) (L : List Bd) (v : Value) (w : World) (F0 : Fac w) (hq : Lst w v L) (HF : Hid (∀ x ∈ L, Fits x)) (hvw : viwB L = true) (j : Nat) (hj : j < (sortL L).length) (htj : t % ((sortL L).length : Int) = (j : Int)) (x : Bd) (hx : (sortL L)[j]? = some x) (hlo : lonB (sortL L) x.k = false) : Calls Tryz.prog 6 #[v, .int .u8 t] w fun e w' => e = .returned (.bool true) ∧ Kep w.heap.size w w' := by
  obtain ⟨base, cap, rfl⟩ := hq.shape
  have HQ := Lib.hid hq
  clear hq
  have VW : Hid (∀ v w, Lst w v L → Calls Tryz.prog 8 #[v] w fun e w' => ∃ v', e = .returned (.tuple #[v', .bool true]) ∧ (Lst w' v' (sortL L) ∧ Roomy v') ∧ Kep w.heap.size w w') := Lib.hid (fun v w h => (rvw L v w h).mono fun e w' ⟨v', h1, h2, h3⟩ => ⟨v', by rw [h1]; rw [hvw], ⟨by have := h2.1; rw [if_pos (vw_of hvw HF.out).1] at this; exact this, h2.2.2⟩, h3⟩)
  have HVW := Lib.hid (vw_of hvw HF.out).2.2
  obtain ⟨A, hA⟩ : ∃ A, A = sortL L := ⟨_, rfl⟩
  rw [← hA] at VW HVW
  rw [← hA] at hj htj hx hlo
  clear hA
  have HJ := Lib.hid hx
  have hlen := HVW.out.len
  have LN : Hid (RPl A x.k false) := Lib.hid (by rw [← hlo]; exact rpl A x.k (by omega) (Lib.hid HVW.out.ok) HVW.out.asc)
  clear hx hlo
  generalize hna : A.length = na at *
  have HN := Lib.hid hna
  clear hna
  have t1 : IntKind.i64.wrap t = t := by rw [IntKind.wrap_i64]; omega
  have t2 : wrap64 t = t := by unfold wrap64; omega
  have t3 : ((na : Int) == 0) = false := by simp; omega
  have t4 : Int.tmod t (na : Int) = (j : Int) := by rw [Int.tmod_eq_emod_of_nonneg ht.1]; exact htj
  have t5 : ((0 : Int) ≤ (j : Int)) := by omega
  go_enter Tryz.func6, Tryz.ntmps6
  go_wp2_with (first
    | ((with_reducible refine (VW.out _ _ (HQ.out.kep (Kep.refl _ _))).mono ?_); rintro e w1 ⟨v1, rfl, ⟨l1, m1⟩, g1⟩
       have gg := kep_next (Kep.refl _ _) g1
       obtain ⟨b1, c1, hv1⟩ := l1.shape
       rw [HN.out] at hv1
       subst hv1
       have hcap : na ≤ c1 := m1 _ _ _ rfl
       obtain ⟨gl, off, rfl, qx⟩ := l1.at_ HJ.out
       have s0 : w1.cell? ⟨gl, off + j * 10, none⟩ = some (.int .u32 x.k) := qx 0 (by decide)
       clear m1)
    | ((with_reducible refine (AW.out _ (F0.kep (by (repeat (first | with_reducible assumption | refine kep_more ?_ _ | refine kep_drew ?_ | exact Kep.refl _ _))))).mono ?_); rintro e w2 ⟨rfl, g2⟩
       replace gg := kep_next gg g2
       replace l1 := l1.kep g2
       replace s0 := g2.all s0)
    | ((with_reducible refine (LN.out _ _ l1).mono ?_); rintro e w3 ⟨rfl, g3⟩; replace gg := kep_next gg g3; replace l1 := l1.kep g3))
  go_ret
  exact ⟨rfl, gg⟩
set_option maxRecDepth 100000 in
set_option maxHeartbeats 8000000 in
theorem tll_ok (O : TOps) (AW : Hid TAwake) (t : Int) (ht : 0 ≤ t ∧ t < 256) (L : List Bd) (v : Value) (w : World) (F0 : Fac w) (hq : Lst w v L) (HF : Hid (∀ x ∈ L, Fits x)) (hvw : viwB L = true) (j : Nat) (hj : j < (sortL L).length) (htj : t % ((sortL L).length : Int) = (j : Int)) (x : Bd) (hx : (sortL L)[j]? = some x) (hlo : lonB (sortL L) x.k = true) : Calls Tryz.prog 6 #[v, .int .u8 t] w fun e w' => e = .returned (.bool true) ∧ Kep w.heap.size w w' := by
  obtain ⟨base, cap, rfl⟩ := hq.shape
  have HQ := Lib.hid hq
  clear hq
  have VW : Hid (∀ v w, Lst w v L → Calls Tryz.prog 8 #[v] w fun e w' => ∃ v', e = .returned (.tuple #[v', .bool true]) ∧ (Lst w' v' (sortL L) ∧ Roomy v') ∧ Kep w.heap.size w w') := Lib.hid (fun v w h => (rvw L v w h).mono fun e w' ⟨v', h1, h2, h3⟩ => ⟨v', by rw [h1]; rw [hvw], ⟨by have := h2.1; rw [if_pos (vw_of hvw HF.out).1] at this; exact this, h2.2.2⟩, h3⟩)
  have HVW := Lib.hid (vw_of hvw HF.out).2.2
  obtain ⟨A, hA⟩ : ∃ A, A = sortL L := ⟨_, rfl⟩
  rw [← hA] at VW HVW
  rw [← hA] at hj htj hx hlo
  clear hA
  have HJ := Lib.hid hx
  have hlen := HVW.out.len
  have LN : Hid (RPl A x.k true) := Lib.hid (by rw [← hlo]; exact rpl A x.k (by omega) (Lib.hid HVW.out.ok) HVW.out.asc)
  have hcl := lone_cons HVW.out hx hlo
  have SA := Lib.hid (fun v w f h => O.stp v A w f h HVW.out)
  have SB := Lib.hid (fun v w f h => O.stp v (A.take j ++ A.drop (j + 1)) w f h (vw_goneK HVW.out hx))
  rw [stp_rest HVW.out hx hcl] at SB
  have HE := Lib.hid (stp_free HVW.out hx hcl)
  have hel := stpL_len A
  have FR := Lib.hid (O.fre (HVW.out.ok x (List.mem_of_getElem? hx)) (HVW.out.key x (List.mem_of_getElem? hx)))
  have S1 := Lib.hid (fun va vb w h1 h2 => same_any va vb ((stpL A).take j ++ (stpL A).drop (j + 1)) w h1 h2 (by rw [List.length_append, List.length_take, List.length_drop]; omega))
  obtain ⟨na1, hn1⟩ : ∃ n, n = A.length - 1 := ⟨_, rfl⟩
  have HFL : Hid (((stpL A).take j ++ (stpL A).drop (j + 1)).length = na1) := Lib.hid (by rw [List.length_append, List.length_take, List.length_drop]; omega)
  generalize stpL A = E at *
  generalize (consL A).length = nc at *
  generalize stpC A = zA at *
  obtain ⟨nc2, hnc2⟩ : ∃ n, n = (consL (A.take j ++ A.drop (j + 1))).length := ⟨_, rfl⟩
  obtain ⟨zB, hzB⟩ : ∃ z, z = stpC (A.take j ++ A.drop (j + 1)) := ⟨_, rfl⟩
  rw [← hnc2, ← hzB] at SB
  clear hx hlo hcl hnc2 hzB
  generalize hna : A.length = na at *
  have HN := Lib.hid hna
  clear hna
  have t1 : IntKind.i64.wrap t = t := by rw [IntKind.wrap_i64]; omega
  have t2 : wrap64 t = t := by unfold wrap64; omega
  have t3 : ((na : Int) == 0) = false := by simp; omega
  have t4 : Int.tmod t (na : Int) = (j : Int) := by rw [Int.tmod_eq_emod_of_nonneg ht.1]; exact htj
  have t5 : ((0 : Int) ≤ (j : Int)) := by omega
  go_enter Tryz.func6, Tryz.ntmps6
  go_upto_region 8 with (first
    | ((with_reducible refine (VW.out _ _ (HQ.out.kep (Kep.refl _ _))).mono ?_); rintro e w1 ⟨v1, rfl, ⟨l1, m1⟩, g1⟩
       have gg := kep_next (Kep.refl _ _) g1
       obtain ⟨b1, c1, hv1⟩ := l1.shape
       rw [HN.out] at hv1
       subst hv1
       have hcap : na ≤ c1 := m1 _ _ _ rfl
       obtain ⟨gl, off, rfl, qx⟩ := l1.at_ HJ.out
       have s0 : w1.cell? ⟨gl, off + j * 10, none⟩ = some (.int .u32 x.k) := qx 0 (by decide)
       clear m1)
    | ((with_reducible refine (AW.out _ (F0.kep (by (repeat (first | with_reducible assumption | refine kep_more ?_ _ | refine kep_drew ?_ | exact Kep.refl _ _))))).mono ?_); rintro e w2 ⟨rfl, g2⟩
       replace gg := kep_next gg g2
       replace l1 := l1.kep g2
       replace s0 := g2.all s0)
    | ((with_reducible refine (LN.out _ _ l1).mono ?_); rintro e w3 ⟨rfl, g3⟩; replace gg := kep_next gg g3; replace l1 := l1.kep g3)
    | ((with_reducible refine (SA.out _ _ (F0.kep gg) l1).mono ?_); rintro e w4 ⟨v4, n4, rfl, ⟨l4, -, -, r4⟩, g4⟩; replace l1 := l1.kep g4; replace gg := kep_next gg g4))
  clear t1 t2 t3 t4 htj ht
  generalize hW : World.alloc w4 _ = W0
  have g0 : Kep w4.heap.size w4 W0 := by rw [← hW]; exact kep_more (Kep.refl _ _) _
  clear hW
  replace l1 := l1.kep g0
  replace l4 := l4.kep g0
  replace gg := kep_next gg g0
  obtain ⟨b4, c4, hv4⟩ := l4.shape
  rw [hel] at hv4
  subst hv4
  have hc4 : na ≤ c4 := r4 _ _ _ rfl
  obtain ⟨j1, hj1⟩ : ∃ j1, j1 = j + 1 := ⟨_, rfl⟩
  have e1 : wrap64 ((j : Int) + 1) = (j1 : Int) := by unfold wrap64; omega
  have e2 : IntKind.i64.wrap ((j : Int) + 1) = (j1 : Int) := by rw [IntKind.wrap_i64]; omega
  have lnv := HN.out
  have lnu := hel
  have k1 : j ≤ na := by omega
  have k2 : j1 ≤ na := by omega
  obtain ⟨vt, hvt⟩ : ∃ q, q = sliced (some ⟨gl, off, none⟩) 0 j c1 10 := ⟨_, rfl⟩
  obtain ⟨vf, hvf⟩ : ∃ q, q = sliced (some ⟨gl, off, none⟩) j1 na c1 10 := ⟨_, rfl⟩
  have rvt : ∀ w, (Instr.slice 22 (.slice (some ⟨gl, off, none⟩) na c1) none (some (.int .i64 (j : Int))) none).run Tryz.prog w = .ok vt w := fun w => by rw [hvt]; exact bl_till _ na c1 j (Nat.le_trans k1 hcap) w
  have rvf : ∀ w, (Instr.slice 22 (.slice (some ⟨gl, off, none⟩) na c1) (some (.int .i64 (j1 : Int))) none none).run Tryz.prog w = .ok vf w := fun w => by rw [hvf]; exact bl_from _ na c1 j1 k2 w
  have Qvt : Hid (∀ w, Lst w (.slice (some ⟨gl, off, none⟩) na c1) A → Sq vals 10 w vt (A.take j)) := Lib.hid fun w h => by rw [hvt]; exact sqb_till lnv h k1
  have Qvf : Hid (∀ w, Lst w (.slice (some ⟨gl, off, none⟩) na c1) A → Sq vals 10 w vf (A.drop j1)) := Lib.hid fun w h => by rw [hvf]; exact sqb_from lnv h k2 hcap
  clear hvt hvf
  obtain ⟨ut, hut⟩ : ∃ q, q = sliced b4 0 j c4 10 := ⟨_, rfl⟩
  obtain ⟨uf, huf⟩ : ∃ q, q = sliced b4 j1 na c4 10 := ⟨_, rfl⟩
  have rut : ∀ w, (Instr.slice 22 (.slice b4 na c4) none (some (.int .i64 (j : Int))) none).run Tryz.prog w = .ok ut w := fun w => by rw [hut]; exact bl_till _ na c4 j (Nat.le_trans k1 hc4) w
  have ruf : ∀ w, (Instr.slice 22 (.slice b4 na c4) (some (.int .i64 (j1 : Int))) none none).run Tryz.prog w = .ok uf w := fun w => by rw [huf]; exact bl_from _ na c4 j1 k2 w
  have Qut : Hid (∀ w, Lst w (.slice b4 na c4) E → Sq vals 10 w ut (E.take j)) := Lib.hid fun w h => by rw [hut]; exact sqb_till lnu h k1
  have Quf : Hid (∀ w, Lst w (.slice b4 na c4) E → Sq vals 10 w uf (E.drop j1)) := Lib.hid fun w h => by rw [huf]; exact sqb_from lnu h k2 hc4
  clear hut huf
  have HL := Lib.hid l1
  have HL4 := Lib.hid l4
  have G0 := Lib.hid gg
  have h40 : (([] : List Bd) ++ A.take j).length ≤ 40 := by have := List.length_take_le j A; simp; omega
  have hd40 : (A.drop j1).length ≤ 40 := by rw [List.length_drop]; omega
  have e40 : (([] : List Bd) ++ E.take j).length ≤ 40 := by have := List.length_take_le j E; simp; omega
  have ed40 : (E.drop j1).length ≤ 40 := by rw [List.length_drop]; omega
  have HJ1 := Lib.hid hj1
  clear l1 l4 gg s0 qx hcap hc4 lnu lnv hj1 k1 k2 r4 g0
  go_cut [10] (fun s10 wx => ∃ v6, s10 = v6 ∧ Hid (Lst wx v6 (E.take j ++ E.drop (j + 1)) ∧ Kep W0.heap.size W0 wx))
  case first =>
    refine wp_region_noPanic ?_
    refine wp_region_held_drew (S := (fun w' => Kep W0.heap.size W0 w')) (by kernel_rfl) (kep_drew (Kep.refl _ _)) (fun hH => ?_)
    generalize W0.drew = Y0 at *
    try simp only [Act.put, List.setIfInBounds_toArray, List.set_cons_zero, List.set_cons_succ]
    refine wpAnyH_take (i := 1) (oi := { dst := some 50, op := Op.move (Operand.tmp 5), type := _, pos := _, after := _, guard := none }) (v := ?_) rfl (by kernel_rfl) (by kernel_rfl) (by kernel_rfl) (fun _ _ _ h => h) (Or.inl ⟨by rfl, ?_⟩) hH ?_
    rotate_left
    · (intro w hSw; (try dsimp only at hSw); go_simp; (try with_reducible rfl))
    try simp only [Act.put, List.setIfInBounds_toArray, List.set_cons_zero, List.set_cons_succ]
    refine wpAnyH_take (i := 2) (oi := { dst := some 51, op := Op.move (Operand.tmp 7), type := _, pos := _, after := _, guard := none }) (v := ?_) rfl (by kernel_rfl) (by kernel_rfl) (by kernel_rfl) (fun _ _ _ h => h) (Or.inl ⟨by rfl, ?_⟩) hH ?_
    rotate_left
    · (intro w hSw; (try dsimp only at hSw); go_simp; (try with_reducible rfl))
    try simp only [Act.put, List.setIfInBounds_toArray, List.set_cons_zero, List.set_cons_succ]
    refine wpAnyH_take (i := 3) (oi := { dst := some 52, op := Op.slice 22 (Operand.tmp 50) none (some (Operand.tmp 51)) none, type := _, pos := _, after := _, guard := none }) (v := ?_) rfl (by kernel_rfl) (by kernel_rfl) (by kernel_rfl) (fun _ _ _ h => h) (Or.inl ⟨by rfl, ?_⟩) hH ?_
    rotate_left
    · (intro w hSw; (try dsimp only at hSw); go_simp; (try with_reducible rfl))
    try simp only [Act.put, List.setIfInBounds_toArray, List.set_cons_zero, List.set_cons_succ]
    refine wpAnyH_take (i := 5) (oi := { dst := some 54, op := Op.move (Operand.tmp 5), type := _, pos := _, after := _, guard := none }) (v := ?_) rfl (by kernel_rfl) (by kernel_rfl) (by kernel_rfl) (fun _ _ _ h => h) (Or.inl ⟨by rfl, ?_⟩) hH ?_
    rotate_left
    · (intro w hSw; (try dsimp only at hSw); go_simp; (try with_reducible rfl))
    try simp only [Act.put, List.setIfInBounds_toArray, List.set_cons_zero, List.set_cons_succ]
    refine wpAnyH_take (i := 6) (oi := { dst := some 55, op := Op.move (Operand.tmp 7), type := _, pos := _, after := _, guard := none }) (v := ?_) rfl (by kernel_rfl) (by kernel_rfl) (by kernel_rfl) (fun _ _ _ h => h) (Or.inl ⟨by rfl, ?_⟩) hH ?_
    rotate_left
    · (intro w hSw; (try dsimp only at hSw); go_simp; (try with_reducible rfl))
    try simp only [Act.put, List.setIfInBounds_toArray, List.set_cons_zero, List.set_cons_succ]
    refine wpAnyH_take (i := 7) (oi := { dst := some 56, op := Op.binOp BinOp.add 3 (Operand.tmp 55) (Operand.const (Value.int IntKind.i64 1)) 3, type := _, pos := _, after := _, guard := none }) (v := ?_) rfl (by kernel_rfl) (by kernel_rfl) (by kernel_rfl) (fun _ _ _ h => h) (Or.inl ⟨by rfl, ?_⟩) hH ?_
    rotate_left
    · (intro w hSw; (try dsimp only at hSw); go_simp; (try with_reducible rfl))
    try simp only [Act.put, List.setIfInBounds_toArray, List.set_cons_zero, List.set_cons_succ]
    refine wpAnyH_take (i := 8) (oi := { dst := some 57, op := Op.slice 22 (Operand.tmp 54) (some (Operand.tmp 56)) none none, type := _, pos := _, after := _, guard := none }) (v := ?_) rfl (by kernel_rfl) (by kernel_rfl) (by kernel_rfl) (fun _ _ _ h => h) (Or.inl ⟨by rfl, ?_⟩) hH ?_
    rotate_left
    · (intro w hSw; (try dsimp only at hSw); go_simp; (try with_reducible rfl))
    try simp only [Act.put, List.setIfInBounds_toArray, List.set_cons_zero, List.set_cons_succ]
    refine wpAnyH_ready (rs := [0, 14]) (by kernel_rfl) (by simp) ?_
    refine AllReadyH.cons (o := { dst := some 49, op := Op.buildSlice 22 0 #[], type := _, pos := _, after := _, guard := none }) rfl (fun K hK => ?_) (AllReadyH.cons (o := { dst := some 11, op := Op.alloc 27, type := _, pos := _, after := _, guard := none }) rfl (fun K hK => ?_) AllReadyH.nil)
    · go_simp
      have HO : Hid (World.ownsRow (World.alloc Y0 (.cells #[] 40)) W0.heap.size 40 10 (.slice (some ⟨Y0.heap.size, 0, none⟩) 0 0) ([] : List Bd).length (([] : List Bd).flatMap vals)) := Lib.hid (by have q := World.ownsRow_made (base := W0.heap.size) (e := 40) (size := 10) Y0 #[] 0 hH.size (Nat.zero_le _) (by simp); simpa using q)
      refine hK.out _ _ (kep_more hH _) (fun hH2 => ?_)
      clear hK K hH; have hH := hH2; clear hH2
      try simp only [Act.put, List.setIfInBounds_toArray, List.set_cons_zero, List.set_cons_succ]
      refine wpAnyH_ready (rs := [4, 14]) (by kernel_rfl) (by simp) ?_
      refine AllReadyH.cons (o := { dst := some 53, op := Op.call { callee := Callee.builtin Builtin.append, args := #[Operand.tmp 49, Operand.tmp 52], argTypes := #[22, 22] }, type := _, pos := _, after := _, guard := none }) rfl (fun K hK => ?_) (AllReadyH.cons (o := { dst := some 11, op := Op.alloc 27, type := _, pos := _, after := _, guard := none }) rfl (fun K hK => ?_) AllReadyH.nil)
      · refine step_appAll2 vals 10 vals_lenK vals_oneK (by rfl) _ _ 22 (by rfl) 40 _ 40 Tryz.underlying22 info_body rfl (by decide) W0.heap.size _ _ _ (([] : List Bd)) (A.take j) (by rfl) HO.out (by rfl) (Qvt.out _ (HL.out.kep hH)) (by rw [show maxLen = 9223372036854775807 from rfl]; have := h40; simp at this ⊢; omega) (by have := h40; simp at this ⊢; omega) hH.size ?_
        intro v5 w5 o5 k5 b5
        replace HO := Lib.hid o5
        refine hK.out _ _ (hH.trans k5) (fun hH2 => ?_)
        clear o5 k5 b5
        clear hK K hH; have hH := hH2; clear hH2
        try simp only [Act.put, List.setIfInBounds_toArray, List.set_cons_zero, List.set_cons_succ]
        refine wpAnyH_ready (rs := [9, 14]) (by kernel_rfl) (by simp) ?_
        refine AllReadyH.cons (o := { dst := some 58, op := Op.call { callee := Callee.builtin Builtin.append, args := #[Operand.tmp 53, Operand.tmp 57], argTypes := #[22, 22] }, type := _, pos := _, after := _, guard := none }) rfl (fun K hK => ?_) (AllReadyH.cons (o := { dst := some 11, op := Op.alloc 27, type := _, pos := _, after := _, guard := none }) rfl (fun K hK => ?_) AllReadyH.nil)
        · refine step_appAll2 vals 10 vals_lenK vals_oneK (by rfl) _ _ 22 (by rfl) 40 _ 40 Tryz.underlying22 info_body rfl (by decide) W0.heap.size _ _ _ (([] : List Bd) ++ A.take j) (A.drop j1) (by rfl) HO.out (by rfl) (Qvf.out _ (HL.out.kep hH)) (by rw [show maxLen = 9223372036854775807 from rfl]; omega) (by omega) hH.size ?_
          intro v6 w6 o6 k6 b6
          replace HO := Lib.hid o6
          have HG : Hid (Lst w6 v6 (A.take j ++ A.drop (j + 1))) := Lib.hid (own_lst (by rw [← HJ1.out]; simpa [flat] using HO.out))
          clear HO
          refine hK.out _ _ (hH.trans k6) (fun hH2 => ?_)
          clear o6 k6 b6
          clear hK K hH; have hH := hH2; clear hH2
          try simp only [Act.put, List.setIfInBounds_toArray, List.set_cons_zero, List.set_cons_succ]
          refine wpAnyH_ready (rs := [10, 14]) (by kernel_rfl) (by simp) ?_
          refine AllReadyH.cons (o := { dst := some 59, op := Op.call { callee := Callee.value (Operand.func 10), args := #[Operand.tmp 58], argTypes := #[22] }, type := _, pos := _, after := _, guard := none }) rfl (fun K hK => ?_) (AllReadyH.cons (o := { dst := some 11, op := Op.alloc 27, type := _, pos := _, after := _, guard := none }) rfl (fun K hK => ?_) AllReadyH.nil)
          · go_simp
            refine (SB.out _ _ (F0.kep (kep_next G0.out hH)) HG.out).mono ?_; rintro e w7 ⟨v7, n7, rfl, ⟨l7, -, -, -⟩, g⟩
            have H6 := Lib.hid l7
            refine hK.out _ _ (kep_next hH g) (fun hH2 => ?_)
            clear l7 g HG
            clear hK K hH; have hH := hH2; clear hH2
            try simp only [Act.put, List.setIfInBounds_toArray, List.set_cons_zero, List.set_cons_succ]
            refine wpAnyH_take (i := 11) (oi := { dst := some 48, op := Op.move (Operand.tmp 59), type := _, pos := _, after := _, guard := none }) (v := ?_) rfl (by kernel_rfl) (by kernel_rfl) (by kernel_rfl) (fun _ _ _ h => h) (Or.inl ⟨by rfl, ?_⟩) hH ?_
            rotate_left
            · (intro w hSw; (try dsimp only at hSw); go_simp; (try with_reducible rfl))
            try simp only [Act.put, List.setIfInBounds_toArray, List.set_cons_zero, List.set_cons_succ]
            refine wpAnyH_take (i := 12) (oi := { dst := some 60, op := Op.extract (Operand.tmp 48) 0, type := _, pos := _, after := _, guard := none }) (v := ?_) rfl (by kernel_rfl) (by kernel_rfl) (by kernel_rfl) (fun _ _ _ h => h) (Or.inl ⟨by rfl, ?_⟩) hH ?_
            rotate_left
            · (intro w hSw; (try dsimp only at hSw); go_simp; (try with_reducible rfl))
            try simp only [Act.put, List.setIfInBounds_toArray, List.set_cons_zero, List.set_cons_succ]
            refine wpAnyH_take (i := 13) (oi := { dst := some 61, op := Op.extract (Operand.tmp 48) 1, type := _, pos := _, after := _, guard := none }) (v := ?_) rfl (by kernel_rfl) (by kernel_rfl) (by kernel_rfl) (fun _ _ _ h => h) (Or.inl ⟨by rfl, ?_⟩) hH ?_
            rotate_left
            · (intro w hSw; (try dsimp only at hSw); go_simp; (try with_reducible rfl))
            try simp only [Act.put, List.setIfInBounds_toArray, List.set_cons_zero, List.set_cons_succ]
            refine wpAnyH_ready (rs := [14]) (by kernel_rfl) (by simp) ?_
            refine AllReadyH.cons (o := { dst := some 11, op := Op.alloc 27, type := _, pos := _, after := _, guard := none }) rfl (fun K hK => ?_) AllReadyH.nil
            go_simp
            have HT : Hid (StO (World.alloc w7 (.cells #[.int .i64 0, .int .i64 0, .bool false] 27)) W0.heap.size (w7.heap.size) [.int .i64 0, .int .i64 0, .bool false]) := Lib.hid (sto_new hH.size (by first | rfl | simp))
            have HP6 := H6
            have hP := hH
            replace H6 := Lib.hid (H6.out.kep (kep_more (Kep.refl _ _) (.cells #[.int .i64 0, .int .i64 0, .bool false] 27)))
            refine hK.out _ _ (kep_more hH _) (fun hH2 => ?_)
            clear hK K hH; have hH := hH2; clear hH2
            try simp only [Act.put, List.setIfInBounds_toArray, List.set_cons_zero, List.set_cons_succ]
            refine wpAnyH_take (i := 15) (oi := { dst := some 10, op := Op.assign (Operand.tmp 60), type := _, pos := _, after := _, guard := none }) (v := ?_) rfl (by kernel_rfl) (by kernel_rfl) (by kernel_rfl) (fun _ _ _ h => h) (Or.inl ⟨by rfl, ?_⟩) hH ?_
            rotate_left
            · (intro w hSw; (try dsimp only at hSw); go_simp; (try with_reducible rfl))
            try simp only [Act.put, List.setIfInBounds_toArray, List.set_cons_zero, List.set_cons_succ]
            refine wpAnyH_ready (rs := [16]) (by kernel_rfl) (by simp) ?_
            refine AllReadyH.cons (o := { dst := none, op := Op.store 27 (Operand.tmp 11) (Operand.tmp 61), type := _, pos := _, after := _, guard := none }) rfl (fun K hK => ?_) AllReadyH.nil
            have q0 : World.cell? (World.alloc w7 (.cells #[.int .i64 0, .int .i64 0, .bool false] 27)) ⟨w7.heap.size, 0, none⟩ = some (.int .i64 0) := HT.out.cellAt 0 (by decide)
            have q1 : World.cell? (World.alloc w7 (.cells #[.int .i64 0, .int .i64 0, .bool false] 27)) ⟨w7.heap.size, 1, none⟩ = some (.int .i64 0) := HT.out.cellAt 1 (by decide)
            have q2 : World.cell? (World.alloc w7 (.cells #[.int .i64 0, .int .i64 0, .bool false] 27)) ⟨w7.heap.size, 2, none⟩ = some (.bool false) := HT.out.cellAt 2 (by decide)
            have f0 := HT.out.frozenAt 0
            have f1 := HT.out.frozenAt 1
            have f2 := HT.out.frozenAt 2
            have hz := sto_lt HT.out
            have hz2 := hz.2
            have H7 := Lib.hid (HP6.out.kep (kep_more (Kep.refl _ _) (.cells #[.int .i64 n7, .int .i64 (nc2 : Int), .bool zB] 27)))
            go_simp
            refine hK.out _ _ (kep_more hP _) (fun hH2 => ?_)
            clear q0 q1 q2 f0 f1 f2 hz hz2 HT H6 HP6 hP
            clear hK K hH; have hH := hH2; clear hH2
            try simp only [Act.put, List.setIfInBounds_toArray, List.set_cons_zero, List.set_cons_succ]
            refine wpAnyH_done (by kernel_rfl) ?_ _
            refine NoPanic.normal ?_
            go_wp2_with fail
            go_meet
            exact ⟨_, rfl, Lib.hid ⟨H7.out, hH⟩⟩
          · go_simp
            have HT : Hid (StO (World.alloc w6 (.cells #[.int .i64 0, .int .i64 0, .bool false] 27)) W0.heap.size (w6.heap.size) [.int .i64 0, .int .i64 0, .bool false]) := Lib.hid (sto_new hH.size (by first | rfl | simp))
            replace HG := Lib.hid (HG.out.kep (kep_more (Kep.refl _ _) (.cells #[.int .i64 0, .int .i64 0, .bool false] 27)))
            refine hK.out _ _ (kep_more hH _) (fun hH2 => ?_)
            clear hK K hH; have hH := hH2; clear hH2
            try simp only [Act.put, List.setIfInBounds_toArray, List.set_cons_zero, List.set_cons_succ]
            refine wpAnyH_ready (rs := [10]) (by kernel_rfl) (by simp) ?_
            refine AllReadyH.cons (o := { dst := some 59, op := Op.call { callee := Callee.value (Operand.func 10), args := #[Operand.tmp 58], argTypes := #[22] }, type := _, pos := _, after := _, guard := none }) rfl (fun K hK => ?_) AllReadyH.nil
            go_simp
            refine (SB.out _ _ (F0.kep (kep_next G0.out hH)) HG.out).mono ?_; rintro e w7 ⟨v7, n7, rfl, ⟨l7, -, -, -⟩, g⟩
            have H6 := Lib.hid l7
            replace HT : Hid (StO w7 W0.heap.size (w6.heap.size) [.int .i64 0, .int .i64 0, .bool false]) := Lib.hid (own_kep HT.out g (Nat.le_refl _))
            refine hK.out _ _ (kep_next hH g) (fun hH2 => ?_)
            clear l7 g HG
            clear hK K hH; have hH := hH2; clear hH2
            try simp only [Act.put, List.setIfInBounds_toArray, List.set_cons_zero, List.set_cons_succ]
            refine wpAnyH_take (i := 11) (oi := { dst := some 48, op := Op.move (Operand.tmp 59), type := _, pos := _, after := _, guard := none }) (v := ?_) rfl (by kernel_rfl) (by kernel_rfl) (by kernel_rfl) (fun _ _ _ h => h) (Or.inl ⟨by rfl, ?_⟩) hH ?_
            rotate_left
            · (intro w hSw; (try dsimp only at hSw); go_simp; (try with_reducible rfl))
            try simp only [Act.put, List.setIfInBounds_toArray, List.set_cons_zero, List.set_cons_succ]
            refine wpAnyH_take (i := 12) (oi := { dst := some 60, op := Op.extract (Operand.tmp 48) 0, type := _, pos := _, after := _, guard := none }) (v := ?_) rfl (by kernel_rfl) (by kernel_rfl) (by kernel_rfl) (fun _ _ _ h => h) (Or.inl ⟨by rfl, ?_⟩) hH ?_
            rotate_left
            · (intro w hSw; (try dsimp only at hSw); go_simp; (try with_reducible rfl))
            try simp only [Act.put, List.setIfInBounds_toArray, List.set_cons_zero, List.set_cons_succ]
            refine wpAnyH_take (i := 13) (oi := { dst := some 61, op := Op.extract (Operand.tmp 48) 1, type := _, pos := _, after := _, guard := none }) (v := ?_) rfl (by kernel_rfl) (by kernel_rfl) (by kernel_rfl) (fun _ _ _ h => h) (Or.inl ⟨by rfl, ?_⟩) hH ?_
            rotate_left
            · (intro w hSw; (try dsimp only at hSw); go_simp; (try with_reducible rfl))
            try simp only [Act.put, List.setIfInBounds_toArray, List.set_cons_zero, List.set_cons_succ]
            refine wpAnyH_take (i := 15) (oi := { dst := some 10, op := Op.assign (Operand.tmp 60), type := _, pos := _, after := _, guard := none }) (v := ?_) rfl (by kernel_rfl) (by kernel_rfl) (by kernel_rfl) (fun _ _ _ h => h) (Or.inl ⟨by rfl, ?_⟩) hH ?_
            rotate_left
            · (intro w hSw; (try dsimp only at hSw); go_simp; (try with_reducible rfl))
            try simp only [Act.put, List.setIfInBounds_toArray, List.set_cons_zero, List.set_cons_succ]
            refine wpAnyH_ready (rs := [16]) (by kernel_rfl) (by simp) ?_
            refine AllReadyH.cons (o := { dst := none, op := Op.store 27 (Operand.tmp 11) (Operand.tmp 61), type := _, pos := _, after := _, guard := none }) rfl (fun K hK => ?_) AllReadyH.nil
            have q0 : World.cell? w7 ⟨w6.heap.size, 0, none⟩ = some (.int .i64 0) := HT.out.cellAt 0 (by decide)
            have q1 : World.cell? w7 ⟨w6.heap.size, 1, none⟩ = some (.int .i64 0) := HT.out.cellAt 1 (by decide)
            have q2 : World.cell? w7 ⟨w6.heap.size, 2, none⟩ = some (.bool false) := HT.out.cellAt 2 (by decide)
            have f0 := HT.out.frozenAt 0
            have f1 := HT.out.frozenAt 1
            have f2 := HT.out.frozenAt 2
            have hz := sto_lt HT.out
            have hz2 := hz.2
            have H7 := Lib.hid (lst_set3 H6.out HT.out (.int .i64 n7) (.int .i64 (nc2 : Int)) (.bool zB))
            go_simp
            refine hK.out _ _ (((hH.setCell hz.1 _).setCell hz.1 _).setCell hz.1 _) (fun hH2 => ?_)
            clear q0 q1 q2 f0 f1 f2 hz hz2 HT H6
            clear hK K hH; have hH := hH2; clear hH2
            try simp only [Act.put, List.setIfInBounds_toArray, List.set_cons_zero, List.set_cons_succ]
            refine wpAnyH_done (by kernel_rfl) ?_ _
            refine NoPanic.normal ?_
            go_wp2_with fail
            go_meet
            exact ⟨_, rfl, Lib.hid ⟨H7.out, hH⟩⟩
        · go_simp
          have HT : Hid (StO (World.alloc w5 (.cells #[.int .i64 0, .int .i64 0, .bool false] 27)) W0.heap.size (w5.heap.size) [.int .i64 0, .int .i64 0, .bool false]) := Lib.hid (sto_new hH.size (by first | rfl | simp))
          replace HO := Lib.hid (HO.out.alloc (.cells #[.int .i64 0, .int .i64 0, .bool false] 27))
          refine hK.out _ _ (kep_more hH _) (fun hH2 => ?_)
          clear hK K hH; have hH := hH2; clear hH2
          try simp only [Act.put, List.setIfInBounds_toArray, List.set_cons_zero, List.set_cons_succ]
          refine wpAnyH_ready (rs := [9]) (by kernel_rfl) (by simp) ?_
          refine AllReadyH.cons (o := { dst := some 58, op := Op.call { callee := Callee.builtin Builtin.append, args := #[Operand.tmp 53, Operand.tmp 57], argTypes := #[22, 22] }, type := _, pos := _, after := _, guard := none }) rfl (fun K hK => ?_) AllReadyH.nil
          refine step_appAll2 vals 10 vals_lenK vals_oneK (by rfl) _ _ 22 (by rfl) 40 _ 40 Tryz.underlying22 info_body rfl (by decide) W0.heap.size _ _ _ (([] : List Bd) ++ A.take j) (A.drop j1) (by rfl) HO.out (by rfl) (Qvf.out _ (HL.out.kep hH)) (by rw [show maxLen = 9223372036854775807 from rfl]; omega) (by omega) hH.size ?_
          intro v6 w6 o6 k6 b6
          replace HT : Hid (StO w6 W0.heap.size (w5.heap.size) [.int .i64 0, .int .i64 0, .bool false]) := Lib.hid (HT.out.kept b6 (own_apart HT.out HO.out (by decide)))
          replace HO := Lib.hid o6
          have HG : Hid (Lst w6 v6 (A.take j ++ A.drop (j + 1))) := Lib.hid (own_lst (by rw [← HJ1.out]; simpa [flat] using HO.out))
          clear HO
          refine hK.out _ _ (hH.trans k6) (fun hH2 => ?_)
          clear o6 k6 b6
          clear hK K hH; have hH := hH2; clear hH2
          try simp only [Act.put, List.setIfInBounds_toArray, List.set_cons_zero, List.set_cons_succ]
          refine wpAnyH_ready (rs := [10]) (by kernel_rfl) (by simp) ?_
          refine AllReadyH.cons (o := { dst := some 59, op := Op.call { callee := Callee.value (Operand.func 10), args := #[Operand.tmp 58], argTypes := #[22] }, type := _, pos := _, after := _, guard := none }) rfl (fun K hK => ?_) AllReadyH.nil
          go_simp
          refine (SB.out _ _ (F0.kep (kep_next G0.out hH)) HG.out).mono ?_; rintro e w7 ⟨v7, n7, rfl, ⟨l7, -, -, -⟩, g⟩
          have H6 := Lib.hid l7
          replace HT : Hid (StO w7 W0.heap.size (w5.heap.size) [.int .i64 0, .int .i64 0, .bool false]) := Lib.hid (own_kep HT.out g (Nat.le_refl _))
          refine hK.out _ _ (kep_next hH g) (fun hH2 => ?_)
          clear l7 g HG
          clear hK K hH; have hH := hH2; clear hH2
          try simp only [Act.put, List.setIfInBounds_toArray, List.set_cons_zero, List.set_cons_succ]
          refine wpAnyH_take (i := 11) (oi := { dst := some 48, op := Op.move (Operand.tmp 59), type := _, pos := _, after := _, guard := none }) (v := ?_) rfl (by kernel_rfl) (by kernel_rfl) (by kernel_rfl) (fun _ _ _ h => h) (Or.inl ⟨by rfl, ?_⟩) hH ?_
          rotate_left
          · (intro w hSw; (try dsimp only at hSw); go_simp; (try with_reducible rfl))
          try simp only [Act.put, List.setIfInBounds_toArray, List.set_cons_zero, List.set_cons_succ]
          refine wpAnyH_take (i := 12) (oi := { dst := some 60, op := Op.extract (Operand.tmp 48) 0, type := _, pos := _, after := _, guard := none }) (v := ?_) rfl (by kernel_rfl) (by kernel_rfl) (by kernel_rfl) (fun _ _ _ h => h) (Or.inl ⟨by rfl, ?_⟩) hH ?_
          rotate_left
          · (intro w hSw; (try dsimp only at hSw); go_simp; (try with_reducible rfl))
          try simp only [Act.put, List.setIfInBounds_toArray, List.set_cons_zero, List.set_cons_succ]
          refine wpAnyH_take (i := 13) (oi := { dst := some 61, op := Op.extract (Operand.tmp 48) 1, type := _, pos := _, after := _, guard := none }) (v := ?_) rfl (by kernel_rfl) (by kernel_rfl) (by kernel_rfl) (fun _ _ _ h => h) (Or.inl ⟨by rfl, ?_⟩) hH ?_
          rotate_left
          · (intro w hSw; (try dsimp only at hSw); go_simp; (try with_reducible rfl))
          try simp only [Act.put, List.setIfInBounds_toArray, List.set_cons_zero, List.set_cons_succ]
          refine wpAnyH_take (i := 15) (oi := { dst := some 10, op := Op.assign (Operand.tmp 60), type := _, pos := _, after := _, guard := none }) (v := ?_) rfl (by kernel_rfl) (by kernel_rfl) (by kernel_rfl) (fun _ _ _ h => h) (Or.inl ⟨by rfl, ?_⟩) hH ?_
          rotate_left
          · (intro w hSw; (try dsimp only at hSw); go_simp; (try with_reducible rfl))
          try simp only [Act.put, List.setIfInBounds_toArray, List.set_cons_zero, List.set_cons_succ]
          refine wpAnyH_ready (rs := [16]) (by kernel_rfl) (by simp) ?_
          refine AllReadyH.cons (o := { dst := none, op := Op.store 27 (Operand.tmp 11) (Operand.tmp 61), type := _, pos := _, after := _, guard := none }) rfl (fun K hK => ?_) AllReadyH.nil
          have q0 : World.cell? w7 ⟨w5.heap.size, 0, none⟩ = some (.int .i64 0) := HT.out.cellAt 0 (by decide)
          have q1 : World.cell? w7 ⟨w5.heap.size, 1, none⟩ = some (.int .i64 0) := HT.out.cellAt 1 (by decide)
          have q2 : World.cell? w7 ⟨w5.heap.size, 2, none⟩ = some (.bool false) := HT.out.cellAt 2 (by decide)
          have f0 := HT.out.frozenAt 0
          have f1 := HT.out.frozenAt 1
          have f2 := HT.out.frozenAt 2
          have hz := sto_lt HT.out
          have hz2 := hz.2
          have H7 := Lib.hid (lst_set3 H6.out HT.out (.int .i64 n7) (.int .i64 (nc2 : Int)) (.bool zB))
          go_simp
          refine hK.out _ _ (((hH.setCell hz.1 _).setCell hz.1 _).setCell hz.1 _) (fun hH2 => ?_)
          clear q0 q1 q2 f0 f1 f2 hz hz2 HT H6
          clear hK K hH; have hH := hH2; clear hH2
          try simp only [Act.put, List.setIfInBounds_toArray, List.set_cons_zero, List.set_cons_succ]
          refine wpAnyH_done (by kernel_rfl) ?_ _
          refine NoPanic.normal ?_
          go_wp2_with fail
          go_meet
          exact ⟨_, rfl, Lib.hid ⟨H7.out, hH⟩⟩
      · go_simp
        have HT : Hid (StO (World.alloc (World.alloc Y0 (.cells #[] 40)) (.cells #[.int .i64 0, .int .i64 0, .bool false] 27)) W0.heap.size (Y0.heap.size + 1) [.int .i64 0, .int .i64 0, .bool false]) := Lib.hid (sto_new hH.size (by first | rfl | simp))
        replace HO := Lib.hid (HO.out.alloc (.cells #[.int .i64 0, .int .i64 0, .bool false] 27))
        refine hK.out _ _ (kep_more hH _) (fun hH2 => ?_)
        clear hK K hH; have hH := hH2; clear hH2
        try simp only [Act.put, List.setIfInBounds_toArray, List.set_cons_zero, List.set_cons_succ]
        refine wpAnyH_ready (rs := [4]) (by kernel_rfl) (by simp) ?_
        refine AllReadyH.cons (o := { dst := some 53, op := Op.call { callee := Callee.builtin Builtin.append, args := #[Operand.tmp 49, Operand.tmp 52], argTypes := #[22, 22] }, type := _, pos := _, after := _, guard := none }) rfl (fun K hK => ?_) AllReadyH.nil
        refine step_appAll2 vals 10 vals_lenK vals_oneK (by rfl) _ _ 22 (by rfl) 40 _ 40 Tryz.underlying22 info_body rfl (by decide) W0.heap.size _ _ _ (([] : List Bd)) (A.take j) (by rfl) HO.out (by rfl) (Qvt.out _ (HL.out.kep hH)) (by rw [show maxLen = 9223372036854775807 from rfl]; have := h40; simp at this ⊢; omega) (by have := h40; simp at this ⊢; omega) hH.size ?_
        intro v5 w5 o5 k5 b5
        replace HT : Hid (StO w5 W0.heap.size (Y0.heap.size + 1) [.int .i64 0, .int .i64 0, .bool false]) := Lib.hid (HT.out.kept b5 (own_apart HT.out HO.out (by decide)))
        replace HO := Lib.hid o5
        refine hK.out _ _ (hH.trans k5) (fun hH2 => ?_)
        clear o5 k5 b5
        clear hK K hH; have hH := hH2; clear hH2
        try simp only [Act.put, List.setIfInBounds_toArray, List.set_cons_zero, List.set_cons_succ]
        refine wpAnyH_ready (rs := [9]) (by kernel_rfl) (by simp) ?_
        refine AllReadyH.cons (o := { dst := some 58, op := Op.call { callee := Callee.builtin Builtin.append, args := #[Operand.tmp 53, Operand.tmp 57], argTypes := #[22, 22] }, type := _, pos := _, after := _, guard := none }) rfl (fun K hK => ?_) AllReadyH.nil
        refine step_appAll2 vals 10 vals_lenK vals_oneK (by rfl) _ _ 22 (by rfl) 40 _ 40 Tryz.underlying22 info_body rfl (by decide) W0.heap.size _ _ _ (([] : List Bd) ++ A.take j) (A.drop j1) (by rfl) HO.out (by rfl) (Qvf.out _ (HL.out.kep hH)) (by rw [show maxLen = 9223372036854775807 from rfl]; omega) (by omega) hH.size ?_
        intro v6 w6 o6 k6 b6
        replace HT : Hid (StO w6 W0.heap.size (Y0.heap.size + 1) [.int .i64 0, .int .i64 0, .bool false]) := Lib.hid (HT.out.kept b6 (own_apart HT.out HO.out (by decide)))
        replace HO := Lib.hid o6
        have HG : Hid (Lst w6 v6 (A.take j ++ A.drop (j + 1))) := Lib.hid (own_lst (by rw [← HJ1.out]; simpa [flat] using HO.out))
        clear HO
        refine hK.out _ _ (hH.trans k6) (fun hH2 => ?_)
        clear o6 k6 b6
        clear hK K hH; have hH := hH2; clear hH2
        try simp only [Act.put, List.setIfInBounds_toArray, List.set_cons_zero, List.set_cons_succ]
        refine wpAnyH_ready (rs := [10]) (by kernel_rfl) (by simp) ?_
        refine AllReadyH.cons (o := { dst := some 59, op := Op.call { callee := Callee.value (Operand.func 10), args := #[Operand.tmp 58], argTypes := #[22] }, type := _, pos := _, after := _, guard := none }) rfl (fun K hK => ?_) AllReadyH.nil
        go_simp
        refine (SB.out _ _ (F0.kep (kep_next G0.out hH)) HG.out).mono ?_; rintro e w7 ⟨v7, n7, rfl, ⟨l7, -, -, -⟩, g⟩
        have H6 := Lib.hid l7
        replace HT : Hid (StO w7 W0.heap.size (Y0.heap.size + 1) [.int .i64 0, .int .i64 0, .bool false]) := Lib.hid (own_kep HT.out g (Nat.le_refl _))
        refine hK.out _ _ (kep_next hH g) (fun hH2 => ?_)
        clear l7 g HG
        clear hK K hH; have hH := hH2; clear hH2
        try simp only [Act.put, List.setIfInBounds_toArray, List.set_cons_zero, List.set_cons_succ]
        refine wpAnyH_take (i := 11) (oi := { dst := some 48, op := Op.move (Operand.tmp 59), type := _, pos := _, after := _, guard := none }) (v := ?_) rfl (by kernel_rfl) (by kernel_rfl) (by kernel_rfl) (fun _ _ _ h => h) (Or.inl ⟨by rfl, ?_⟩) hH ?_
        rotate_left
        · (intro w hSw; (try dsimp only at hSw); go_simp; (try with_reducible rfl))
        try simp only [Act.put, List.setIfInBounds_toArray, List.set_cons_zero, List.set_cons_succ]
        refine wpAnyH_take (i := 12) (oi := { dst := some 60, op := Op.extract (Operand.tmp 48) 0, type := _, pos := _, after := _, guard := none }) (v := ?_) rfl (by kernel_rfl) (by kernel_rfl) (by kernel_rfl) (fun _ _ _ h => h) (Or.inl ⟨by rfl, ?_⟩) hH ?_
        rotate_left
        · (intro w hSw; (try dsimp only at hSw); go_simp; (try with_reducible rfl))
        try simp only [Act.put, List.setIfInBounds_toArray, List.set_cons_zero, List.set_cons_succ]
        refine wpAnyH_take (i := 13) (oi := { dst := some 61, op := Op.extract (Operand.tmp 48) 1, type := _, pos := _, after := _, guard := none }) (v := ?_) rfl (by kernel_rfl) (by kernel_rfl) (by kernel_rfl) (fun _ _ _ h => h) (Or.inl ⟨by rfl, ?_⟩) hH ?_
        rotate_left
        · (intro w hSw; (try dsimp only at hSw); go_simp; (try with_reducible rfl))
        try simp only [Act.put, List.setIfInBounds_toArray, List.set_cons_zero, List.set_cons_succ]
        refine wpAnyH_take (i := 15) (oi := { dst := some 10, op := Op.assign (Operand.tmp 60), type := _, pos := _, after := _, guard := none }) (v := ?_) rfl (by kernel_rfl) (by kernel_rfl) (by kernel_rfl) (fun _ _ _ h => h) (Or.inl ⟨by rfl, ?_⟩) hH ?_
        rotate_left
        · (intro w hSw; (try dsimp only at hSw); go_simp; (try with_reducible rfl))
        try simp only [Act.put, List.setIfInBounds_toArray, List.set_cons_zero, List.set_cons_succ]
        refine wpAnyH_ready (rs := [16]) (by kernel_rfl) (by simp) ?_
        refine AllReadyH.cons (o := { dst := none, op := Op.store 27 (Operand.tmp 11) (Operand.tmp 61), type := _, pos := _, after := _, guard := none }) rfl (fun K hK => ?_) AllReadyH.nil
        have q0 : World.cell? w7 ⟨Y0.heap.size + 1, 0, none⟩ = some (.int .i64 0) := HT.out.cellAt 0 (by decide)
        have q1 : World.cell? w7 ⟨Y0.heap.size + 1, 1, none⟩ = some (.int .i64 0) := HT.out.cellAt 1 (by decide)
        have q2 : World.cell? w7 ⟨Y0.heap.size + 1, 2, none⟩ = some (.bool false) := HT.out.cellAt 2 (by decide)
        have f0 := HT.out.frozenAt 0
        have f1 := HT.out.frozenAt 1
        have f2 := HT.out.frozenAt 2
        have hz := sto_lt HT.out
        have hz2 := hz.2
        have H7 := Lib.hid (lst_set3 H6.out HT.out (.int .i64 n7) (.int .i64 (nc2 : Int)) (.bool zB))
        go_simp
        refine hK.out _ _ (((hH.setCell hz.1 _).setCell hz.1 _).setCell hz.1 _) (fun hH2 => ?_)
        clear q0 q1 q2 f0 f1 f2 hz hz2 HT H6
        clear hK K hH; have hH := hH2; clear hH2
        try simp only [Act.put, List.setIfInBounds_toArray, List.set_cons_zero, List.set_cons_succ]
        refine wpAnyH_done (by kernel_rfl) ?_ _
        refine NoPanic.normal ?_
        go_wp2_with fail
        go_meet
        exact ⟨_, rfl, Lib.hid ⟨H7.out, hH⟩⟩
    · go_simp
      have HT : Hid (StO (World.alloc Y0 (.cells #[.int .i64 0, .int .i64 0, .bool false] 27)) W0.heap.size (Y0.heap.size) [.int .i64 0, .int .i64 0, .bool false]) := Lib.hid (sto_new hH.size (by first | rfl | simp))
      refine hK.out _ _ (kep_more hH _) (fun hH2 => ?_)
      clear hK K hH; have hH := hH2; clear hH2
      try simp only [Act.put, List.setIfInBounds_toArray, List.set_cons_zero, List.set_cons_succ]
      refine wpAnyH_ready (rs := [0]) (by kernel_rfl) (by simp) ?_
      refine AllReadyH.cons (o := { dst := some 49, op := Op.buildSlice 22 0 #[], type := _, pos := _, after := _, guard := none }) rfl (fun K hK => ?_) AllReadyH.nil
      go_simp
      have HO : Hid (World.ownsRow (World.alloc (World.alloc Y0 (.cells #[.int .i64 0, .int .i64 0, .bool false] 27)) (.cells #[] 40)) W0.heap.size 40 10 (.slice (some ⟨Y0.heap.size + 1, 0, none⟩) 0 0) ([] : List Bd).length (([] : List Bd).flatMap vals)) := Lib.hid (by have q := World.ownsRow_made (base := W0.heap.size) (e := 40) (size := 10) (World.alloc Y0 (.cells #[.int .i64 0, .int .i64 0, .bool false] 27)) #[] 0 hH.size (Nat.zero_le _) (by simp); simpa using q)
      replace HT := Lib.hid (HT.out.alloc (.cells #[] 40))
      refine hK.out _ _ (kep_more hH _) (fun hH2 => ?_)
      clear hK K hH; have hH := hH2; clear hH2
      try simp only [Act.put, List.setIfInBounds_toArray, List.set_cons_zero, List.set_cons_succ]
      refine wpAnyH_ready (rs := [4]) (by kernel_rfl) (by simp) ?_
      refine AllReadyH.cons (o := { dst := some 53, op := Op.call { callee := Callee.builtin Builtin.append, args := #[Operand.tmp 49, Operand.tmp 52], argTypes := #[22, 22] }, type := _, pos := _, after := _, guard := none }) rfl (fun K hK => ?_) AllReadyH.nil
      refine step_appAll2 vals 10 vals_lenK vals_oneK (by rfl) _ _ 22 (by rfl) 40 _ 40 Tryz.underlying22 info_body rfl (by decide) W0.heap.size _ _ _ (([] : List Bd)) (A.take j) (by rfl) HO.out (by rfl) (Qvt.out _ (HL.out.kep hH)) (by rw [show maxLen = 9223372036854775807 from rfl]; have := h40; simp at this ⊢; omega) (by have := h40; simp at this ⊢; omega) hH.size ?_
      intro v5 w5 o5 k5 b5
      replace HT : Hid (StO w5 W0.heap.size (Y0.heap.size) [.int .i64 0, .int .i64 0, .bool false]) := Lib.hid (HT.out.kept b5 (own_apart HT.out HO.out (by decide)))
      replace HO := Lib.hid o5
      refine hK.out _ _ (hH.trans k5) (fun hH2 => ?_)
      clear o5 k5 b5
      clear hK K hH; have hH := hH2; clear hH2
      try simp only [Act.put, List.setIfInBounds_toArray, List.set_cons_zero, List.set_cons_succ]
      refine wpAnyH_ready (rs := [9]) (by kernel_rfl) (by simp) ?_
      refine AllReadyH.cons (o := { dst := some 58, op := Op.call { callee := Callee.builtin Builtin.append, args := #[Operand.tmp 53, Operand.tmp 57], argTypes := #[22, 22] }, type := _, pos := _, after := _, guard := none }) rfl (fun K hK => ?_) AllReadyH.nil
      refine step_appAll2 vals 10 vals_lenK vals_oneK (by rfl) _ _ 22 (by rfl) 40 _ 40 Tryz.underlying22 info_body rfl (by decide) W0.heap.size _ _ _ (([] : List Bd) ++ A.take j) (A.drop j1) (by rfl) HO.out (by rfl) (Qvf.out _ (HL.out.kep hH)) (by rw [show maxLen = 9223372036854775807 from rfl]; omega) (by omega) hH.size ?_
      intro v6 w6 o6 k6 b6
      replace HT : Hid (StO w6 W0.heap.size (Y0.heap.size) [.int .i64 0, .int .i64 0, .bool false]) := Lib.hid (HT.out.kept b6 (own_apart HT.out HO.out (by decide)))
      replace HO := Lib.hid o6
      have HG : Hid (Lst w6 v6 (A.take j ++ A.drop (j + 1))) := Lib.hid (own_lst (by rw [← HJ1.out]; simpa [flat] using HO.out))
      clear HO
      refine hK.out _ _ (hH.trans k6) (fun hH2 => ?_)
      clear o6 k6 b6
      clear hK K hH; have hH := hH2; clear hH2
      try simp only [Act.put, List.setIfInBounds_toArray, List.set_cons_zero, List.set_cons_succ]
      refine wpAnyH_ready (rs := [10]) (by kernel_rfl) (by simp) ?_
      refine AllReadyH.cons (o := { dst := some 59, op := Op.call { callee := Callee.value (Operand.func 10), args := #[Operand.tmp 58], argTypes := #[22] }, type := _, pos := _, after := _, guard := none }) rfl (fun K hK => ?_) AllReadyH.nil
      go_simp
      refine (SB.out _ _ (F0.kep (kep_next G0.out hH)) HG.out).mono ?_; rintro e w7 ⟨v7, n7, rfl, ⟨l7, -, -, -⟩, g⟩
      have H6 := Lib.hid l7
      replace HT : Hid (StO w7 W0.heap.size (Y0.heap.size) [.int .i64 0, .int .i64 0, .bool false]) := Lib.hid (own_kep HT.out g (Nat.le_refl _))
      refine hK.out _ _ (kep_next hH g) (fun hH2 => ?_)
      clear l7 g HG
      clear hK K hH; have hH := hH2; clear hH2
      try simp only [Act.put, List.setIfInBounds_toArray, List.set_cons_zero, List.set_cons_succ]
      refine wpAnyH_take (i := 11) (oi := { dst := some 48, op := Op.move (Operand.tmp 59), type := _, pos := _, after := _, guard := none }) (v := ?_) rfl (by kernel_rfl) (by kernel_rfl) (by kernel_rfl) (fun _ _ _ h => h) (Or.inl ⟨by rfl, ?_⟩) hH ?_
      rotate_left
      · (intro w hSw; (try dsimp only at hSw); go_simp; (try with_reducible rfl))
      try simp only [Act.put, List.setIfInBounds_toArray, List.set_cons_zero, List.set_cons_succ]
      refine wpAnyH_take (i := 12) (oi := { dst := some 60, op := Op.extract (Operand.tmp 48) 0, type := _, pos := _, after := _, guard := none }) (v := ?_) rfl (by kernel_rfl) (by kernel_rfl) (by kernel_rfl) (fun _ _ _ h => h) (Or.inl ⟨by rfl, ?_⟩) hH ?_
      rotate_left
      · (intro w hSw; (try dsimp only at hSw); go_simp; (try with_reducible rfl))
      try simp only [Act.put, List.setIfInBounds_toArray, List.set_cons_zero, List.set_cons_succ]
      refine wpAnyH_take (i := 13) (oi := { dst := some 61, op := Op.extract (Operand.tmp 48) 1, type := _, pos := _, after := _, guard := none }) (v := ?_) rfl (by kernel_rfl) (by kernel_rfl) (by kernel_rfl) (fun _ _ _ h => h) (Or.inl ⟨by rfl, ?_⟩) hH ?_
      rotate_left
      · (intro w hSw; (try dsimp only at hSw); go_simp; (try with_reducible rfl))
      try simp only [Act.put, List.setIfInBounds_toArray, List.set_cons_zero, List.set_cons_succ]
      refine wpAnyH_take (i := 15) (oi := { dst := some 10, op := Op.assign (Operand.tmp 60), type := _, pos := _, after := _, guard := none }) (v := ?_) rfl (by kernel_rfl) (by kernel_rfl) (by kernel_rfl) (fun _ _ _ h => h) (Or.inl ⟨by rfl, ?_⟩) hH ?_
      rotate_left
      · (intro w hSw; (try dsimp only at hSw); go_simp; (try with_reducible rfl))
      try simp only [Act.put, List.setIfInBounds_toArray, List.set_cons_zero, List.set_cons_succ]
      refine wpAnyH_ready (rs := [16]) (by kernel_rfl) (by simp) ?_
      refine AllReadyH.cons (o := { dst := none, op := Op.store 27 (Operand.tmp 11) (Operand.tmp 61), type := _, pos := _, after := _, guard := none }) rfl (fun K hK => ?_) AllReadyH.nil
      have q0 : World.cell? w7 ⟨Y0.heap.size, 0, none⟩ = some (.int .i64 0) := HT.out.cellAt 0 (by decide)
      have q1 : World.cell? w7 ⟨Y0.heap.size, 1, none⟩ = some (.int .i64 0) := HT.out.cellAt 1 (by decide)
      have q2 : World.cell? w7 ⟨Y0.heap.size, 2, none⟩ = some (.bool false) := HT.out.cellAt 2 (by decide)
      have f0 := HT.out.frozenAt 0
      have f1 := HT.out.frozenAt 1
      have f2 := HT.out.frozenAt 2
      have hz := sto_lt HT.out
      have hz2 := hz.2
      have H7 := Lib.hid (lst_set3 H6.out HT.out (.int .i64 n7) (.int .i64 (nc2 : Int)) (.bool zB))
      go_simp
      refine hK.out _ _ (((hH.setCell hz.1 _).setCell hz.1 _).setCell hz.1 _) (fun hH2 => ?_)
      clear q0 q1 q2 f0 f1 f2 hz hz2 HT H6
      clear hK K hH; have hH := hH2; clear hH2
      try simp only [Act.put, List.setIfInBounds_toArray, List.set_cons_zero, List.set_cons_succ]
      refine wpAnyH_done (by kernel_rfl) ?_ _
      refine NoPanic.normal ?_
      go_wp2_with fail
      go_meet
      exact ⟨_, rfl, Lib.hid ⟨H7.out, hH⟩⟩
  case rest =>
    obtain ⟨v6, rfl, HC⟩ := hcut
    have l6 := HC.out.1
    obtain ⟨b6, c6, hv6⟩ := l6.shape
    rw [HFL.out] at hv6
    subst hv6
    have H6 := Lib.hid l6
    have HLE := Lib.hid (HL4.out.kep HC.out.2)
    have f1 : wrap64 ((na : Int) - 1) = (na1 : Int) := by unfold wrap64; omega
    have f2 : IntKind.i64.wrap ((na : Int) - 1) = (na1 : Int) := by rw [IntKind.wrap_i64]; omega
    clear l6 hn1
    go_upto_region 11 with fail
    refine wp_region_noPanic ?_
    refine wp_region_held_drew (S := (fun w' => Kep wc.heap.size wc w')) (by kernel_rfl) (kep_drew (Kep.refl _ _)) (fun hH => ?_)
    generalize wc.drew = Y1 at *
    try simp only [Act.put, List.setIfInBounds_toArray, List.set_cons_zero, List.set_cons_succ]
    refine wpAnyH_take (i := 1) (oi := { dst := some 76, op := Op.move (Operand.tmp 8), type := _, pos := _, after := _, guard := none }) (v := ?_) rfl (by kernel_rfl) (by kernel_rfl) (by kernel_rfl) (fun _ _ _ h => h) (Or.inl ⟨by rfl, ?_⟩) hH ?_
    rotate_left
    · (intro w hSw; (try dsimp only at hSw); go_simp; (try with_reducible rfl))
    try simp only [Act.put, List.setIfInBounds_toArray, List.set_cons_zero, List.set_cons_succ]
    refine wpAnyH_take (i := 2) (oi := { dst := some 77, op := Op.move (Operand.tmp 7), type := _, pos := _, after := _, guard := none }) (v := ?_) rfl (by kernel_rfl) (by kernel_rfl) (by kernel_rfl) (fun _ _ _ h => h) (Or.inl ⟨by rfl, ?_⟩) hH ?_
    rotate_left
    · (intro w hSw; (try dsimp only at hSw); go_simp; (try with_reducible rfl))
    try simp only [Act.put, List.setIfInBounds_toArray, List.set_cons_zero, List.set_cons_succ]
    refine wpAnyH_take (i := 3) (oi := { dst := some 78, op := Op.slice 22 (Operand.tmp 76) none (some (Operand.tmp 77)) none, type := _, pos := _, after := _, guard := none }) (v := ?_) rfl (by kernel_rfl) (by kernel_rfl) (by kernel_rfl) (fun _ _ _ h => h) (Or.inl ⟨by rfl, ?_⟩) hH ?_
    rotate_left
    · (intro w hSw; (try dsimp only at hSw); go_simp; (try with_reducible rfl))
    try simp only [Act.put, List.setIfInBounds_toArray, List.set_cons_zero, List.set_cons_succ]
    refine wpAnyH_take (i := 5) (oi := { dst := some 80, op := Op.move (Operand.tmp 8), type := _, pos := _, after := _, guard := none }) (v := ?_) rfl (by kernel_rfl) (by kernel_rfl) (by kernel_rfl) (fun _ _ _ h => h) (Or.inl ⟨by rfl, ?_⟩) hH ?_
    rotate_left
    · (intro w hSw; (try dsimp only at hSw); go_simp; (try with_reducible rfl))
    try simp only [Act.put, List.setIfInBounds_toArray, List.set_cons_zero, List.set_cons_succ]
    refine wpAnyH_take (i := 6) (oi := { dst := some 81, op := Op.move (Operand.tmp 7), type := _, pos := _, after := _, guard := none }) (v := ?_) rfl (by kernel_rfl) (by kernel_rfl) (by kernel_rfl) (fun _ _ _ h => h) (Or.inl ⟨by rfl, ?_⟩) hH ?_
    rotate_left
    · (intro w hSw; (try dsimp only at hSw); go_simp; (try with_reducible rfl))
    try simp only [Act.put, List.setIfInBounds_toArray, List.set_cons_zero, List.set_cons_succ]
    refine wpAnyH_take (i := 7) (oi := { dst := some 82, op := Op.binOp BinOp.add 3 (Operand.tmp 81) (Operand.const (Value.int IntKind.i64 1)) 3, type := _, pos := _, after := _, guard := none }) (v := ?_) rfl (by kernel_rfl) (by kernel_rfl) (by kernel_rfl) (fun _ _ _ h => h) (Or.inl ⟨by rfl, ?_⟩) hH ?_
    rotate_left
    · (intro w hSw; (try dsimp only at hSw); go_simp; (try with_reducible rfl))
    try simp only [Act.put, List.setIfInBounds_toArray, List.set_cons_zero, List.set_cons_succ]
    refine wpAnyH_take (i := 8) (oi := { dst := some 83, op := Op.slice 22 (Operand.tmp 80) (some (Operand.tmp 82)) none none, type := _, pos := _, after := _, guard := none }) (v := ?_) rfl (by kernel_rfl) (by kernel_rfl) (by kernel_rfl) (fun _ _ _ h => h) (Or.inl ⟨by rfl, ?_⟩) hH ?_
    rotate_left
    · (intro w hSw; (try dsimp only at hSw); go_simp; (try with_reducible rfl))
    try simp only [Act.put, List.setIfInBounds_toArray, List.set_cons_zero, List.set_cons_succ]
    refine wpAnyH_ready (rs := [0]) (by kernel_rfl) (by simp) ?_
    refine AllReadyH.cons (o := { dst := some 75, op := Op.buildSlice 22 0 #[], type := _, pos := _, after := _, guard := none }) rfl (fun K hK => ?_) AllReadyH.nil
    go_simp
    have HO : Hid (World.ownsRow (World.alloc Y1 (.cells #[] 40)) wc.heap.size 40 10 (.slice (some ⟨Y1.heap.size, 0, none⟩) 0 0) ([] : List Bd).length (([] : List Bd).flatMap vals)) := Lib.hid (by have q := World.ownsRow_made (base := wc.heap.size) (e := 40) (size := 10) Y1 #[] 0 hH.size (Nat.zero_le _) (by simp); simpa using q)
    refine hK.out _ _ (kep_more hH _) (fun hH2 => ?_)
    clear hK K hH; have hH := hH2; clear hH2
    try simp only [Act.put, List.setIfInBounds_toArray, List.set_cons_zero, List.set_cons_succ]
    refine wpAnyH_ready (rs := [4]) (by kernel_rfl) (by simp) ?_
    refine AllReadyH.cons (o := { dst := some 79, op := Op.call { callee := Callee.builtin Builtin.append, args := #[Operand.tmp 75, Operand.tmp 78], argTypes := #[22, 22] }, type := _, pos := _, after := _, guard := none }) rfl (fun K hK => ?_) AllReadyH.nil
    refine step_appAll2 vals 10 vals_lenK vals_oneK (by rfl) _ _ 22 (by rfl) 40 _ 40 Tryz.underlying22 info_body rfl (by decide) wc.heap.size _ _ _ (([] : List Bd)) (E.take j) (by rfl) HO.out (by rfl) (Qut.out _ (HLE.out.kep hH)) (by rw [show maxLen = 9223372036854775807 from rfl]; have := e40; simp at this ⊢; omega) (by have := e40; simp at this ⊢; omega) hH.size ?_
    intro v8 w8 o8 k8 b8
    replace HO := Lib.hid o8
    refine hK.out _ _ (hH.trans k8) (fun hH2 => ?_)
    clear o8 k8 b8
    clear hK K hH; have hH := hH2; clear hH2
    try simp only [Act.put, List.setIfInBounds_toArray, List.set_cons_zero, List.set_cons_succ]
    refine wpAnyH_ready (rs := [9]) (by kernel_rfl) (by simp) ?_
    refine AllReadyH.cons (o := { dst := some 84, op := Op.call { callee := Callee.builtin Builtin.append, args := #[Operand.tmp 79, Operand.tmp 83], argTypes := #[22, 22] }, type := _, pos := _, after := _, guard := none }) rfl (fun K hK => ?_) AllReadyH.nil
    refine step_appAll2 vals 10 vals_lenK vals_oneK (by rfl) _ _ 22 (by rfl) 40 _ 40 Tryz.underlying22 info_body rfl (by decide) wc.heap.size _ _ _ (([] : List Bd) ++ E.take j) (E.drop j1) (by rfl) HO.out (by rfl) (Quf.out _ (HLE.out.kep hH)) (by rw [show maxLen = 9223372036854775807 from rfl]; omega) (by omega) hH.size ?_
    intro v9 w9 o9 k9 b9
    replace HO := Lib.hid o9
    have HR : Hid (Lst w9 v9 (E.take j ++ E.drop (j + 1))) := Lib.hid (own_lst (by rw [← HJ1.out]; simpa [flat] using HO.out))
    clear HO
    refine hK.out _ _ (hH.trans k9) (fun hH2 => ?_)
    clear o9 k9 b9
    clear hK K hH; have hH := hH2; clear hH2
    try simp only [Act.put, List.setIfInBounds_toArray, List.set_cons_zero, List.set_cons_succ]
    refine wpAnyH_take (i := 10) (oi := { dst := some 12, op := Op.assign (Operand.tmp 84), type := _, pos := _, after := _, guard := none }) (v := ?_) rfl (by kernel_rfl) (by kernel_rfl) (by kernel_rfl) (fun _ _ _ h => h) (Or.inl ⟨by rfl, ?_⟩) hH ?_
    rotate_left
    · (intro w hSw; (try dsimp only at hSw); go_simp; (try with_reducible rfl))
    try simp only [Act.put, List.setIfInBounds_toArray, List.set_cons_zero, List.set_cons_succ]
    refine wpAnyH_done (by kernel_rfl) ?_ _
    refine NoPanic.normal ?_
    have gg := hH
    clear hH
    replace H6 := Lib.hid (H6.out.kep gg)
    have GA := Lib.hid (kep_next (kep_next G0.out HC.out.2) gg)
    obtain ⟨ge, oe, rfl, qe⟩ := (HLE.out.kep gg).at_ HE.out
    obtain ⟨_, _, e, qx⟩ := (HL.out.kep (kep_next HC.out.2 gg)).at_ HJ.out
    injection e with e
    injection e with q1 q2
    subst q1 q2
    have Zy : ZE w9 ge (oe + j * 10) [.int .u32 (frB x).k, .int .i32 (frB x).r, .int .i32 (frB x).ax, .int .i32 (frB x).ay, .int .i32 (frB x).m, .int .i32 (frB x).o, .int .i32 (frB x).px, .int .i32 (frB x).py, .int .i32 (frB x).vx, .int .i32 (frB x).vy] := ze_of qe
    have Zx : ZE w9 gl (off + j * 10) [.int .u32 x.k, .int .i32 x.r, .int .i32 x.ax, .int .i32 x.ay, .int .i32 x.m, .int .i32 x.o, .int .i32 x.px, .int .i32 x.py, .int .i32 x.vx, .int .i32 x.vy] := ze_of qx
    have vq := fun w => body_eqq (frB x) w
    have i1 : (j : Int) < (na : Int) := by omega
    have i0 : (0 : Int) ≤ (j : Int) := by omega
    clear gg qe qx e1 e2 f1 f2
    go_upto_region 12 with fail
    refine wp_region_noPanic ?_
    refine wp_region_held_drew (S := (fun w' => ZE w' ge (oe + j * 10) [.int .u32 (frB x).k, .int .i32 (frB x).r, .int .i32 (frB x).ax, .int .i32 (frB x).ay, .int .i32 (frB x).m, .int .i32 (frB x).o, .int .i32 (frB x).px, .int .i32 (frB x).py, .int .i32 (frB x).vx, .int .i32 (frB x).vy] ∧ ZE w' gl (off + j * 10) [.int .u32 x.k, .int .i32 x.r, .int .i32 x.ax, .int .i32 x.ay, .int .i32 x.m, .int .i32 x.o, .int .i32 x.px, .int .i32 x.py, .int .i32 x.vx, .int .i32 x.vy] ∧ Kep w9.heap.size w9 w')) (by kernel_rfl) (⟨ze_kep Zy (kep_drew (Kep.refl _ _)), ze_kep Zx (kep_drew (Kep.refl _ _)), kep_drew (Kep.refl _ _)⟩) (fun hH => ?_)
    replace HR := Lib.hid (HR.out.kep (kep_drew (Kep.refl _ _)))
    replace H6 := Lib.hid (H6.out.kep (kep_drew (Kep.refl _ _)))
    clear Zx Zy
    generalize w9.drew = Y2 at *
    try simp only [Act.put, List.setIfInBounds_toArray, List.set_cons_zero, List.set_cons_succ]
    refine wpAnyH_take (i := 0) (oi := { dst := some 85, op := Op.move (Operand.tmp 8), type := _, pos := _, after := _, guard := none }) (v := ?_) rfl (by kernel_rfl) (by kernel_rfl) (by kernel_rfl) (fun _ _ _ h => h) (Or.inl ⟨by rfl, ?_⟩) hH ?_
    rotate_left
    · (intro w hSw; (try dsimp only at hSw); go_simp; (try with_reducible rfl))
    try simp only [Act.put, List.setIfInBounds_toArray, List.set_cons_zero, List.set_cons_succ]
    refine wpAnyH_take (i := 1) (oi := { dst := some 86, op := Op.move (Operand.tmp 7), type := _, pos := _, after := _, guard := none }) (v := ?_) rfl (by kernel_rfl) (by kernel_rfl) (by kernel_rfl) (fun _ _ _ h => h) (Or.inl ⟨by rfl, ?_⟩) hH ?_
    rotate_left
    · (intro w hSw; (try dsimp only at hSw); go_simp; (try with_reducible rfl))
    try simp only [Act.put, List.setIfInBounds_toArray, List.set_cons_zero, List.set_cons_succ]
    refine wpAnyH_take (i := 2) (oi := { dst := some 87, op := Op.indexAddr 22 (Operand.tmp 85) (Operand.tmp 86), type := _, pos := _, after := _, guard := none }) (v := ?_) rfl (by kernel_rfl) (by kernel_rfl) (by kernel_rfl) (fun _ _ _ h => h) (Or.inl ⟨by rfl, ?_⟩) hH ?_
    rotate_left
    · (intro w hSw; (try dsimp only at hSw); go_simp; (try with_reducible rfl))
    try simp only [Act.put, List.setIfInBounds_toArray, List.set_cons_zero, List.set_cons_succ]
    refine wpAnyH_take (i := 3) (oi := { dst := some 88, op := Op.load 40 (Operand.tmp 87), type := _, pos := _, after := _, guard := none }) (v := ?_) rfl (by kernel_rfl) (by kernel_rfl) (by kernel_rfl) (fun _ _ _ h => h) (Or.inl ⟨by rfl, ?_⟩) hH ?_
    rotate_left
    · (intro w hSw; (try dsimp only at hSw); go_simp; (try with_reducible rfl))
    try simp only [Act.put, List.setIfInBounds_toArray, List.set_cons_zero, List.set_cons_succ]
    refine wpAnyH_take (i := 4) (oi := { dst := some 89, op := Op.move (Operand.tmp 5), type := _, pos := _, after := _, guard := none }) (v := ?_) rfl (by kernel_rfl) (by kernel_rfl) (by kernel_rfl) (fun _ _ _ h => h) (Or.inl ⟨by rfl, ?_⟩) hH ?_
    rotate_left
    · (intro w hSw; (try dsimp only at hSw); go_simp; (try with_reducible rfl))
    try simp only [Act.put, List.setIfInBounds_toArray, List.set_cons_zero, List.set_cons_succ]
    refine wpAnyH_take (i := 5) (oi := { dst := some 90, op := Op.move (Operand.tmp 7), type := _, pos := _, after := _, guard := none }) (v := ?_) rfl (by kernel_rfl) (by kernel_rfl) (by kernel_rfl) (fun _ _ _ h => h) (Or.inl ⟨by rfl, ?_⟩) hH ?_
    rotate_left
    · (intro w hSw; (try dsimp only at hSw); go_simp; (try with_reducible rfl))
    try simp only [Act.put, List.setIfInBounds_toArray, List.set_cons_zero, List.set_cons_succ]
    refine wpAnyH_take (i := 6) (oi := { dst := some 91, op := Op.indexAddr 22 (Operand.tmp 89) (Operand.tmp 90), type := _, pos := _, after := _, guard := none }) (v := ?_) rfl (by kernel_rfl) (by kernel_rfl) (by kernel_rfl) (fun _ _ _ h => h) (Or.inl ⟨by rfl, ?_⟩) hH ?_
    rotate_left
    · (intro w hSw; (try dsimp only at hSw); go_simp; (try with_reducible rfl))
    try simp only [Act.put, List.setIfInBounds_toArray, List.set_cons_zero, List.set_cons_succ]
    refine wpAnyH_take (i := 7) (oi := { dst := some 92, op := Op.load 40 (Operand.tmp 91), type := _, pos := _, after := _, guard := none }) (v := ?_) rfl (by kernel_rfl) (by kernel_rfl) (by kernel_rfl) (fun _ _ _ h => h) (Or.inl ⟨by rfl, ?_⟩) hH ?_
    rotate_left
    · (intro w hSw; (try dsimp only at hSw); go_simp; (try with_reducible rfl))
    try simp only [Act.put, List.setIfInBounds_toArray, List.set_cons_zero, List.set_cons_succ]
    refine wpAnyH_ready (rs := [8]) (by kernel_rfl) (by simp) ?_
    refine AllReadyH.cons (o := { dst := some 93, op := Op.call { callee := Callee.value (Operand.func 17), args := #[Operand.tmp 92], argTypes := #[40] }, type := _, pos := _, after := _, guard := none }) rfl (fun K hK => ?_) AllReadyH.nil
    go_simp
    (with_reducible refine (FR.out _).mono ?_); rintro e w10 ⟨rfl, g⟩
    replace HR := Lib.hid (HR.out.kep g)
    replace H6 := Lib.hid (H6.out.kep g)
    refine hK.out _ _ ⟨ze_kep hH.1 g, ze_kep hH.2.1 g, kep_next hH.2.2 g⟩ (fun hH2 => ?_)
    clear g
    clear hK K hH; have hH := hH2; clear hH2
    try simp only [Act.put, List.setIfInBounds_toArray, List.set_cons_zero, List.set_cons_succ]
    refine wpAnyH_take (i := 9) (oi := { dst := some 94, op := Op.binOp BinOp.eql 40 (Operand.tmp 88) (Operand.tmp 93) 40, type := _, pos := _, after := _, guard := none }) (v := ?_) rfl (by kernel_rfl) (by kernel_rfl) (by kernel_rfl) (fun _ _ _ h => h) (Or.inl ⟨by rfl, ?_⟩) hH ?_
    rotate_left
    · (intro w hSw; (try dsimp only at hSw); go_simp; (try with_reducible rfl))
    try simp only [Act.put, List.setIfInBounds_toArray, List.set_cons_zero, List.set_cons_succ]
    refine wpAnyH_take (i := 10) (oi := { dst := some 95, op := Op.move (Operand.tmp 94), type := _, pos := _, after := _, guard := none }) (v := ?_) rfl (by kernel_rfl) (by kernel_rfl) (by kernel_rfl) (fun _ _ _ h => h) (Or.inl ⟨by rfl, ?_⟩) hH ?_
    rotate_left
    · (intro w hSw; (try dsimp only at hSw); go_simp; (try with_reducible rfl))
    try simp only [Act.put, List.setIfInBounds_toArray, List.set_cons_zero, List.set_cons_succ]
    refine wpAnyH_take (i := 11) (oi := { dst := some 96, op := Op.move (Operand.tmp 12), type := _, pos := _, after := _, guard := some (10, true) }) (v := ?_) rfl (by kernel_rfl) (by kernel_rfl) (by kernel_rfl) (fun _ _ _ h => h) (Or.inl ⟨by rfl, ?_⟩) hH ?_
    rotate_left
    · (intro w hSw; (try dsimp only at hSw); go_simp; (try with_reducible rfl))
    try simp only [Act.put, List.setIfInBounds_toArray, List.set_cons_zero, List.set_cons_succ]
    refine wpAnyH_take (i := 12) (oi := { dst := some 97, op := Op.move (Operand.tmp 10), type := _, pos := _, after := _, guard := some (10, true) }) (v := ?_) rfl (by kernel_rfl) (by kernel_rfl) (by kernel_rfl) (fun _ _ _ h => h) (Or.inl ⟨by rfl, ?_⟩) hH ?_
    rotate_left
    · (intro w hSw; (try dsimp only at hSw); go_simp; (try with_reducible rfl))
    try simp only [Act.put, List.setIfInBounds_toArray, List.set_cons_zero, List.set_cons_succ]
    refine wpAnyH_ready (rs := [13]) (by kernel_rfl) (by simp) ?_
    refine AllReadyH.cons (o := { dst := some 98, op := Op.call { callee := Callee.value (Operand.func 12), args := #[Operand.tmp 96, Operand.tmp 97], argTypes := #[22, 22] }, type := _, pos := _, after := _, guard := some (10, true) }) rfl (fun K hK => ?_) AllReadyH.nil
    go_simp
    (with_reducible refine (S1.out _ _ _ HR.out H6.out).mono ?_); rintro e w11 ⟨rfl, g⟩
    replace HR := Lib.hid (HR.out.kep g)
    replace H6 := Lib.hid (H6.out.kep g)
    refine hK.out _ _ ⟨ze_kep hH.1 g, ze_kep hH.2.1 g, kep_next hH.2.2 g⟩ (fun hH2 => ?_)
    clear g
    clear hK K hH; have hH := hH2; clear hH2
    try simp only [Act.put, List.setIfInBounds_toArray, List.set_cons_zero, List.set_cons_succ]
    refine wpAnyH_take (i := 14) (oi := { dst := some 99, op := Op.pick (Operand.tmp 95) (Operand.tmp 98) (Operand.const (Value.bool false)), type := _, pos := _, after := _, guard := none }) (v := ?_) rfl (by kernel_rfl) (by kernel_rfl) (by kernel_rfl) (fun _ _ _ h => h) (Or.inl ⟨by rfl, ?_⟩) hH ?_
    rotate_left
    · (intro w hSw; (try dsimp only at hSw); go_simp; (try with_reducible rfl))
    try simp only [Act.put, List.setIfInBounds_toArray, List.set_cons_zero, List.set_cons_succ]
    refine wpAnyH_take (i := 15) (oi := { dst := some 4, op := Op.assign (Operand.tmp 99), type := _, pos := _, after := _, guard := none }) (v := ?_) rfl (by kernel_rfl) (by kernel_rfl) (by kernel_rfl) (fun _ _ _ h => h) (Or.inl ⟨by rfl, ?_⟩) hH ?_
    rotate_left
    · (intro w hSw; (try dsimp only at hSw); go_simp; (try with_reducible rfl))
    try simp only [Act.put, List.setIfInBounds_toArray, List.set_cons_zero, List.set_cons_succ]
    refine wpAnyH_done (by kernel_rfl) ?_ _
    refine NoPanic.normal ?_
    go_wp2_with fail
    go_ret
    exact ⟨rfl, kep_next GA.out hH.2.2⟩
/-- The law StepLonely. -/
theorem tll_law (O : TOps) (AW : TAwake) (t : Int) (ht : 0 ≤ t ∧ t < 256) (L : List Bd) (v : Value) (w : World) (F0 : Fac w) (hq : Lst w v L) (HF : ∀ x ∈ L, Fits x) : Calls Tryz.prog 6 #[v, .int .u8 t] w fun e w' => e = .returned (.bool true) ∧ Kep w.heap.size w w' := by
  cases hvw : viwB L
  · exact tll_bad (Lib.hid AW) t L v w F0 hq hvw
  · rcases Nat.eq_zero_or_pos (sortL L).length with h0 | h0
    · exact tll_nil (Lib.hid AW) t L v w F0 hq (Lib.hid HF) hvw (List.length_eq_zero_iff.1 h0)
    · have hj : (t % ((sortL L).length : Int)).toNat < (sortL L).length := by have := Int.emod_lt_of_pos t (show (0 : Int) < ((sortL L).length : Int) by omega); have := Int.emod_nonneg t (show ((sortL L).length : Int) ≠ 0 by omega); omega
      have htj : t % ((sortL L).length : Int) = ((t % ((sortL L).length : Int)).toNat : Int) := by have := Int.emod_nonneg t (show ((sortL L).length : Int) ≠ 0 by omega); omega
      generalize (t % ((sortL L).length : Int)).toNat = j at hj htj
      have hx : (sortL L)[j]? = some ((sortL L)[j]'hj) := List.getElem?_eq_getElem _
      cases hlo : lonB (sortL L) ((sortL L)[j]'hj).k
      · exact tll_no O (Lib.hid AW) t ht L v w F0 hq (Lib.hid HF) hvw j hj htj _ hx hlo
      · exact tll_ok O (Lib.hid AW) t ht L v w F0 hq (Lib.hid HF) hvw j hj htj _ hx hlo
end Go.Proofs.YtaknmlohnifcdaaGreatDoor
