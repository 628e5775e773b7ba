/-
  Package contacts: the documentation's examples.
-/
import Derived.Test.YtangalkbjochjaaGreatDoorCtsCon
import Derived.Deep.DeepCutAuto
import Derived.Deep.QuietTactic
import Derived.BigQuiet
namespace Go.Proofs.YtangalkbjochjaaGreatDoor
open Go.RowKit Go.Lib

theorem chs_zero : chs 0 0 0 0 0 0 0 0 = ⟨0, 0, 0, 0, 0⟩ := by rfl
theorem rt_zero : rt 0 = 0 := by
  obtain ⟨h1, h2, _⟩ := rt_is (n := 0) (by decide)
  by_cases c : 0 < rt 0
  · have := Int.mul_pos c c
    omega
  · omega
theorem ex_cc (j k r s : Int) : cc ⟨j, r, 0, 0, 0, 0, 0, 0, 0, 0⟩ ⟨k, s, 0, 0, 0, 0, 0, 0, 0, 0⟩ = ⟨0, 0, 0, 0, 0⟩ := chs_zero
theorem ex_con (j k r s : Int) : conC ⟨j, r, 0, 0, 0, 0, 0, 0, 0, 0⟩ ⟨k, s, 0, 0, 0, 0, 0, 0, 0, 0⟩ = ⟨j, k, 65536, 0, r + s⟩ := by
  have e : cln ⟨j, r, 0, 0, 0, 0, 0, 0, 0, 0⟩ ⟨k, s, 0, 0, 0, 0, 0, 0, 0, 0⟩ = 0 := by unfold cln; rw [ex_cc]; exact rt_zero
  unfold conC
  rw [e]
  unfold ux uy csm
  rw [if_pos rfl, if_pos rfl, Int.sub_zero]
theorem ex_tch (j k r s : Int) (h : 0 < (r + s) * (r + s)) : tchB ⟨j, r, 0, 0, 0, 0, 0, 0, 0, 0⟩ ⟨k, s, 0, 0, 0, 0, 0, 0, 0, 0⟩ = true := by
  unfold tchB csm
  rw [ex_cc]
  exact decide_eq_true h
def exV : List Bd := [⟨1, 65536, 0, 0, 0, 0, 0, 0, 0, 0⟩, ⟨4, 65536, 0, 0, 0, 0, 0, 0, 0, 0⟩, ⟨9, 65537, 0, 0, 0, 0, 0, 0, 0, 0⟩]
def cexC : List Ct := [⟨1, 4, 65536, 0, 131072⟩, ⟨1, 9, 65536, 0, 131073⟩, ⟨4, 9, 65536, 0, 131073⟩]
theorem exV_vw : Vw exV := ⟨by unfold exV Asc; simp [Asc], by unfold exV; decide, by unfold exV; decide, by decide⟩
theorem exV_con : consL exV = cexC := by
  unfold exV consL consL consL consL
  rw [conO_cons, conO_cons, conO_cons, ex_tch _ _ _ _ (by decide), ex_tch _ _ _ _ (by decide), ex_tch _ _ _ _ (by decide), if_pos rfl, if_pos rfl, if_pos rfl, ex_con, ex_con, ex_con]
  rfl
theorem cexC_deep : deepC cexC = ⟨1, 9, 65536, 0, 131073⟩ := by rfl
theorem cexC_with : (withC cexC 9).length = 2 := by rfl
theorem exV_lst (W : World) (b : Nat) (hb : b = W.heap.size) : Lst (W.alloc (.cells #[.int .u32 1, .int .i32 65536, .int .i32 0, .int .i32 0, .int .i32 0, .int .i32 0, .int .i32 0, .int .i32 0, .int .i32 0, .int .i32 0, .int .u32 4, .int .i32 65536, .int .i32 0, .int .i32 0, .int .i32 0, .int .i32 0, .int .i32 0, .int .i32 0, .int .i32 0, .int .i32 0, .int .u32 9, .int .i32 65537, .int .i32 0, .int .i32 0, .int .i32 0, .int .i32 0, .int .i32 0, .int .i32 0, .int .i32 0, .int .i32 0] 46)) (.slice (some ⟨b, 0, none⟩) 3 3) exV := by
  subst hb
  exact .inr ⟨_, 0, 3, rfl, fun k x hx i hi => by
    rw [World.cell?_alloc_at _ _ _ _ rfl]
    rcases k with _ | _ | _ | k
    · simp [exV] at hx; subst hx; rcases i with _ | _ | _ | _ | _ | _ | _ | _ | _ | _ | i <;> first | rfl | omega
    · simp [exV] at hx; subst hx; rcases i with _ | _ | _ | _ | _ | _ | _ | _ | _ | _ | i <;> first | rfl | omega
    · simp [exV] at hx; subst hx; rcases i with _ | _ | _ | _ | _ | _ | _ | _ | _ | _ | i <;> first | rfl | omega
    · simp [exV] at hx⟩
set_option maxRecDepth 100000 in
set_option maxHeartbeats 4000000 in
theorem cts_awake (O : COps) : CAwake := fun w F0 => by
  have gg : Kep w.heap.size w w := Kep.refl _ _
  have HF := Lib.hid (fun v w f h => (show Calls Tryz.prog 10 #[v] w fun e w' => ∃ b c, e = .returned (.tuple #[.slice b 3 c, .int .i64 3]) ∧ Sq ctv 5 w' (.slice b 3 c) cexC ∧ Hid (Rmy (.slice b 3 c)) ∧ Kep w.heap.size w w' by
    refine (O.all v exV w f h exV_vw).mono ?_
    rintro e w' ⟨v', n, rfl, ⟨h2, h3, h4, hr⟩, h5⟩
    rw [exV_con] at h2 h3
    have e3 : cexC.length = 3 := rfl
    have e4 : exV.length = 3 := rfl
    rw [e3] at h3
    rw [e4] at h4
    obtain rfl : n = 3 := by omega
    obtain ⟨b, c, rfl⟩ := h2.shape
    exact ⟨b, c, rfl, h2, Lib.hid hr, h5⟩))
  have HD := Lib.hid (fun v w h (hr : Hid (Rmy v)) => (show Calls Tryz.prog 11 #[v] w fun e w' => e = .returned (.tuple #[.agg #[.int .u32 1, .int .u32 9, .int .i32 65536, .int .i32 0, .int .i32 131073], .bool true]) ∧ Kep w.heap.size w w' by
    have := O.deep v cexC w h hr.out (by decide)
    rw [cexC_deep] at this
    exact this))
  have HN := Lib.hid (fun w => (show Calls Tryz.prog 11 #[.slice none 0 0] w fun e w' => e = .returned (.tuple #[.agg #[.int .u32 0, .int .u32 0, .int .i32 0, .int .i32 0, .int .i32 0], .bool false]) ∧ Kep w.heap.size w w' from O.deep (.slice none 0 0) [] w Sq.nil (fun b n c e => by injection e with _ e1 e2; omega) (by decide)))
  have HW := Lib.hid (fun v w h => (show Calls Tryz.prog 14 #[v, .int .u32 9] w fun e w' => ∃ b c, e = .returned (.slice b 2 c) ∧ Kep w.heap.size w w' by
    refine (O.with_ v cexC 9 w h (by decide)).mono ?_
    rintro e w' ⟨v', rfl, q, g⟩
    obtain ⟨b, c, rfl⟩ := q.shape
    exact ⟨b, c, by rw [cexC_with], g⟩))
  go_enter Tryz.func9, Tryz.ntmps9
  go_wp2_with (first
    | ((with_reducible refine (HF.out _ _ (F0.kep (kep_more gg _)) (exV_lst _ _ (by first | rfl | simp))).mono ?_); rintro e w1 ⟨bc, cc, rfl, q1, r1, g1⟩
       replace gg := kep_next (kep_more gg _) g1)
    | ((with_reducible refine (HD.out _ _ q1 r1).mono ?_); rintro e w2 ⟨rfl, g2⟩
       replace gg := kep_next gg g2
       replace q1 := q1.kep g2)
    | ((with_reducible refine (HN.out _).mono ?_); rintro e w3 ⟨rfl, g3⟩
       have d0 := Kep.all g3 (a := ⟨w2.heap.size, 0, none⟩) (v := .int .u32 1) (by (repeat (first | rw [World.cell?_drew] | rw [World.cell?_alloc_past _ _ _ (by first | (simp; done) | (simp; omega))])); rw [World.cell?_alloc_at _ _ _ _ (by simp)]; rfl)
       have d1 := Kep.all g3 (a := ⟨w2.heap.size, 1, none⟩) (v := .int .u32 9) (by (repeat (first | rw [World.cell?_drew] | rw [World.cell?_alloc_past _ _ _ (by first | (simp; done) | (simp; omega))])); rw [World.cell?_alloc_at _ _ _ _ (by simp)]; rfl)
       have d2 := Kep.all g3 (a := ⟨w2.heap.size, 2, none⟩) (v := .int .i32 65536) (by (repeat (first | rw [World.cell?_drew] | rw [World.cell?_alloc_past _ _ _ (by first | (simp; done) | (simp; omega))])); rw [World.cell?_alloc_at _ _ _ _ (by simp)]; rfl)
       have d3 := Kep.all g3 (a := ⟨w2.heap.size, 3, none⟩) (v := .int .i32 0) (by (repeat (first | rw [World.cell?_drew] | rw [World.cell?_alloc_past _ _ _ (by first | (simp; done) | (simp; omega))])); rw [World.cell?_alloc_at _ _ _ _ (by simp)]; rfl)
       have d4 := Kep.all g3 (a := ⟨w2.heap.size, 4, none⟩) (v := .int .i32 131073) (by (repeat (first | rw [World.cell?_drew] | rw [World.cell?_alloc_past _ _ _ (by first | (simp; done) | (simp; omega))])); rw [World.cell?_alloc_at _ _ _ _ (by simp)]; rfl)
       replace gg := kep_next (kep_more gg _) g3
       replace q1 := (q1.kep (kep_more (Kep.refl _ _) _)).kep g3))
  obtain ⟨W4, hW4⟩ : ∃ x, x = w3.alloc (.cells #[.int .u32 0, .int .u32 0, .int .i32 0, .int .i32 0, .int .i32 0] 35) := ⟨_, rfl⟩
  rw [← hW4]
  have kW4 : Kep w3.heap.size w3 W4 := by rw [hW4]; exact kep_more (Kep.refl _ _) _
  replace d0 := kW4.all d0
  replace d1 := kW4.all d1
  replace d2 := kW4.all d2
  replace d3 := kW4.all d3
  replace d4 := kW4.all d4
  replace gg := kep_next gg kW4
  replace q1 := q1.kep kW4
  clear hW4 kW4
  have LQ := q1.kep (kep_drew (Kep.refl _ _))
  obtain ⟨b0, c0, e0, hc⟩ := q1
  injection e0 with e0 e1 e2
  subst e0
  clear e1 e2
  obtain ⟨gc, oc, rfl, x0⟩ := hc 0 _ rfl
  obtain ⟨_, _, e1, x1⟩ := hc 1 _ rfl
  injection e1 with e1
  injection e1 with e1 e2
  subst e1 e2
  have s0 : W4.cell? ⟨gc, oc, none⟩ = some (.int .u32 1) := by simpa using x0 0 _ rfl
  have s1 : W4.cell? ⟨gc, oc + 1, none⟩ = some (.int .u32 4) := by simpa using x0 1 _ rfl
  have s2 : W4.cell? ⟨gc, oc + 2, none⟩ = some (.int .i32 65536) := by simpa using x0 2 _ rfl
  have s3 : W4.cell? ⟨gc, oc + 3, none⟩ = some (.int .i32 0) := by simpa using x0 3 _ rfl
  have s4 : W4.cell? ⟨gc, oc + 4, none⟩ = some (.int .i32 131072) := by simpa using x0 4 _ rfl
  have t0 : W4.cell? ⟨gc, oc + 5, none⟩ = some (.int .u32 1) := by simpa using x1 0 _ rfl
  have t1 : W4.cell? ⟨gc, oc + 5 + 1, none⟩ = some (.int .u32 9) := by simpa using x1 1 _ rfl
  have t2 : W4.cell? ⟨gc, oc + 5 + 2, none⟩ = some (.int .i32 65536) := by simpa using x1 2 _ rfl
  have t3 : W4.cell? ⟨gc, oc + 5 + 3, none⟩ = some (.int .i32 0) := by simpa using x1 3 _ rfl
  have t4 : W4.cell? ⟨gc, oc + 5 + 4, none⟩ = some (.int .i32 131073) := by simpa using x1 4 _ rfl
  have v1 := fun w => ct_eqs 1 4 65536 0 131072 w
  have v2 := fun w => ct_eqs 1 9 65536 0 131073 w
  clear hc x0 x1
  refine wp_region_noPanic ?_
  refine wp_region_held_drew (S := (fun w' => w'.cell? ⟨w2.heap.size, 0, none⟩ = some (.int .u32 1) ∧ w'.cell? ⟨w2.heap.size, 1, none⟩ = some (.int .u32 9) ∧ w'.cell? ⟨w2.heap.size, 2, none⟩ = some (.int .i32 65536) ∧ w'.cell? ⟨w2.heap.size, 3, none⟩ = some (.int .i32 0) ∧ w'.cell? ⟨w2.heap.size, 4, none⟩ = some (.int .i32 131073) ∧ w'.cell? ⟨gc, oc, none⟩ = some (.int .u32 1) ∧ w'.cell? ⟨gc, oc + 1, none⟩ = some (.int .u32 4) ∧ w'.cell? ⟨gc, oc + 2, none⟩ = some (.int .i32 65536) ∧ w'.cell? ⟨gc, oc + 3, none⟩ = some (.int .i32 0) ∧ w'.cell? ⟨gc, oc + 4, none⟩ = some (.int .i32 131072) ∧ w'.cell? ⟨gc, oc + 5, none⟩ = some (.int .u32 1) ∧ w'.cell? ⟨gc, oc + 5 + 1, none⟩ = some (.int .u32 9) ∧ w'.cell? ⟨gc, oc + 5 + 2, none⟩ = some (.int .i32 65536) ∧ w'.cell? ⟨gc, oc + 5 + 3, none⟩ = some (.int .i32 0) ∧ w'.cell? ⟨gc, oc + 5 + 4, none⟩ = some (.int .i32 131073) ∧ Kep w.heap.size w w')) (by kernel_rfl) (⟨by rw [World.cell?_drew]; exact d0, by rw [World.cell?_drew]; exact d1, by rw [World.cell?_drew]; exact d2, by rw [World.cell?_drew]; exact d3, by rw [World.cell?_drew]; exact d4, by rw [World.cell?_drew]; exact s0, by rw [World.cell?_drew]; exact s1, by rw [World.cell?_drew]; exact s2, by rw [World.cell?_drew]; exact s3, by rw [World.cell?_drew]; exact s4, by rw [World.cell?_drew]; exact t0, by rw [World.cell?_drew]; exact t1, by rw [World.cell?_drew]; exact t2, by rw [World.cell?_drew]; exact t3, by rw [World.cell?_drew]; exact t4, kep_drew gg⟩) (fun hH => ?_)
  refine rtk 0 (oi := ⟨some 29, .move (.tmp 2), _, _, _, none⟩) (v := ?_) rfl ?_ hH ?_
  rotate_left
  · (intro w hSw; (try dsimp only at hSw); go_simp; (try with_reducible rfl))
  refine rtk 1 (oi := ⟨some 30, .indexAddr 23 (.tmp 29) (.const (Value.int IntKind.i64 0)), _, _, _, none⟩) (v := ?_) rfl ?_ hH ?_
  rotate_left
  · (intro w hSw; (try dsimp only at hSw); go_simp; (try with_reducible rfl))
  refine rtk 2 (oi := ⟨some 31, .load 35 (.tmp 30), _, _, _, none⟩) (v := ?_) rfl ?_ hH ?_
  rotate_left
  · (intro w hSw; (try dsimp only at hSw); go_simp; (try with_reducible rfl))
  refine rtk 3 (oi := ⟨some 32, .build 31 #[(0, .const (Value.int IntKind.u32 1)), (1, .const (Value.int IntKind.u32 4))], _, _, _, none⟩) (v := ?_) rfl ?_ hH ?_
  rotate_left
  · (intro w hSw; (try dsimp only at hSw); go_simp; (try with_reducible rfl))
  refine rtk 4 (oi := ⟨some 33, .build 33 #[(0, .const (Value.int IntKind.i32 65536))], _, _, _, none⟩) (v := ?_) rfl ?_ hH ?_
  rotate_left
  · (intro w hSw; (try dsimp only at hSw); go_simp; (try with_reducible rfl))
  refine rtk 5 (oi := ⟨some 34, .build 35 #[(0, .tmp 32), (1, .tmp 33), (2, .const (Value.int IntKind.i32 131072))], _, _, _, none⟩) (v := ?_) rfl ?_ hH ?_
  rotate_left
  · (intro w hSw; (try dsimp only at hSw); go_simp; (try with_reducible rfl))
  refine rtk 6 (oi := ⟨some 35, .binOp .eql 35 (.tmp 31) (.tmp 34) 35, _, _, _, none⟩) (v := ?_) rfl ?_ hH ?_
  rotate_left
  · (intro w hSw; (try dsimp only at hSw); go_simp; (try with_reducible rfl))
  refine rtk 7 (oi := ⟨some 36, .move (.tmp 35), _, _, _, none⟩) (v := ?_) rfl ?_ hH ?_
  rotate_left
  · (intro w hSw; (try dsimp only at hSw); go_simp; (try with_reducible rfl))
  try simp only [Act.put, List.setIfInBounds_toArray, List.set_cons_zero, List.set_cons_succ]
  refine rtk 8 (oi := ⟨some 37, .move (.tmp 3), _, _, _, some (7, true)⟩) (v := ?_) rfl ?_ hH ?_
  rotate_left
  · (intro w hSw; (try dsimp only at hSw); go_simp; (try with_reducible rfl))
  try simp only [Act.put, List.setIfInBounds_toArray, List.set_cons_zero, List.set_cons_succ]
  refine rtk 9 (oi := ⟨some 38, .binOp .eql 3 (.tmp 37) (.const (Value.int IntKind.i64 3)) 3, _, _, _, some (7, true)⟩) (v := ?_) rfl ?_ hH ?_
  rotate_left
  · (intro w hSw; (try dsimp only at hSw); go_simp; (try with_reducible rfl))
  refine rtk 10 (oi := ⟨some 39, .pick (.tmp 36) (.tmp 38) (.const (Value.bool false)), _, _, _, none⟩) (v := ?_) rfl ?_ hH ?_
  rotate_left
  · (intro w hSw; (try dsimp only at hSw); go_simp; (try with_reducible rfl))
  refine rtk 11 (oi := ⟨some 40, .move (.tmp 39), _, _, _, none⟩) (v := ?_) rfl ?_ hH ?_
  rotate_left
  · (intro w hSw; (try dsimp only at hSw); go_simp; (try with_reducible rfl))
  try simp only [Act.put, List.setIfInBounds_toArray, List.set_cons_zero, List.set_cons_succ]
  refine rtk 12 (oi := ⟨some 41, .load 35 (.tmp 4), _, _, _, some (11, true)⟩) (v := ?_) rfl ?_ hH ?_
  rotate_left
  · (intro w hSw; (try dsimp only at hSw); go_simp; (try with_reducible rfl))
  try simp only [Act.put, List.setIfInBounds_toArray, List.set_cons_zero, List.set_cons_succ]
  refine rtk 13 (oi := ⟨some 42, .move (.tmp 2), _, _, _, some (11, true)⟩) (v := ?_) rfl ?_ hH ?_
  rotate_left
  · (intro w hSw; (try dsimp only at hSw); go_simp; (try with_reducible rfl))
  try simp only [Act.put, List.setIfInBounds_toArray, List.set_cons_zero, List.set_cons_succ]
  refine rtk 14 (oi := ⟨some 43, .indexAddr 23 (.tmp 42) (.const (Value.int IntKind.i64 1)), _, _, _, some (11, true)⟩) (v := ?_) rfl ?_ hH ?_
  rotate_left
  · (intro w hSw; (try dsimp only at hSw); go_simp; (try with_reducible rfl))
  try simp only [Act.put, List.setIfInBounds_toArray, List.set_cons_zero, List.set_cons_succ]
  refine rtk 15 (oi := ⟨some 44, .load 35 (.tmp 43), _, _, _, some (11, true)⟩) (v := ?_) rfl ?_ hH ?_
  rotate_left
  · (intro w hSw; (try dsimp only at hSw); go_simp; (try with_reducible rfl))
  try simp only [Act.put, List.setIfInBounds_toArray, List.set_cons_zero, List.set_cons_succ]
  refine rtk 16 (oi := ⟨some 45, .binOp .eql 35 (.tmp 41) (.tmp 44) 35, _, _, _, some (11, true)⟩) (v := ?_) rfl ?_ hH ?_
  rotate_left
  · (intro w hSw; (try dsimp only at hSw); go_simp; (try with_reducible rfl))
  refine rtk 17 (oi := ⟨some 46, .pick (.tmp 40) (.tmp 45) (.const (Value.bool false)), _, _, _, none⟩) (v := ?_) rfl ?_ hH ?_
  rotate_left
  · (intro w hSw; (try dsimp only at hSw); go_simp; (try with_reducible rfl))
  refine rtk 18 (oi := ⟨some 47, .move (.tmp 46), _, _, _, none⟩) (v := ?_) rfl ?_ hH ?_
  rotate_left
  · (intro w hSw; (try dsimp only at hSw); go_simp; (try with_reducible rfl))
  try simp only [Act.put, List.setIfInBounds_toArray, List.set_cons_zero, List.set_cons_succ]
  refine rtk 19 (oi := ⟨some 48, .move (.tmp 5), _, _, _, some (18, true)⟩) (v := ?_) rfl ?_ hH ?_
  rotate_left
  · (intro w hSw; (try dsimp only at hSw); go_simp; (try with_reducible rfl))
  refine rtk 20 (oi := ⟨some 49, .pick (.tmp 47) (.tmp 48) (.const (Value.bool false)), _, _, _, none⟩) (v := ?_) rfl ?_ hH ?_
  rotate_left
  · (intro w hSw; (try dsimp only at hSw); go_simp; (try with_reducible rfl))
  refine rtk 21 (oi := ⟨some 50, .move (.tmp 49), _, _, _, none⟩) (v := ?_) rfl ?_ hH ?_
  rotate_left
  · (intro w hSw; (try dsimp only at hSw); go_simp; (try with_reducible rfl))
  try simp only [Act.put, List.setIfInBounds_toArray, List.set_cons_zero, List.set_cons_succ]
  refine rtk 22 (oi := ⟨some 51, .move (.tmp 7), _, _, _, some (21, true)⟩) (v := ?_) rfl ?_ hH ?_
  rotate_left
  · (intro w hSw; (try dsimp only at hSw); go_simp; (try with_reducible rfl))
  try simp only [Act.put, List.setIfInBounds_toArray, List.set_cons_zero, List.set_cons_succ]
  refine rtk 23 (oi := ⟨some 52, .unOp .not 4 (.tmp 51), _, _, _, some (21, true)⟩) (v := ?_) rfl ?_ hH ?_
  rotate_left
  · (intro w hSw; (try dsimp only at hSw); go_simp; (try with_reducible rfl))
  refine rtk 24 (oi := ⟨some 53, .pick (.tmp 50) (.tmp 52) (.const (Value.bool false)), _, _, _, none⟩) (v := ?_) rfl ?_ hH ?_
  rotate_left
  · (intro w hSw; (try dsimp only at hSw); go_simp; (try with_reducible rfl))
  refine rtk 25 (oi := ⟨some 54, .move (.tmp 53), _, _, _, none⟩) (v := ?_) rfl ?_ hH ?_
  rotate_left
  · (intro w hSw; (try dsimp only at hSw); go_simp; (try with_reducible rfl))
  try simp only [Act.put, List.setIfInBounds_toArray, List.set_cons_zero, List.set_cons_succ]
  refine rtk 26 (oi := ⟨some 55, .move (.tmp 2), _, _, _, some (25, true)⟩) (v := ?_) rfl ?_ hH ?_
  rotate_left
  · (intro w hSw; (try dsimp only at hSw); go_simp; (try with_reducible rfl))
  try simp only [Act.put, List.setIfInBounds_toArray, List.set_cons_zero, List.set_cons_succ]
  refine wpAnyH_ready (rs := [27]) (by kernel_rfl) (by simp) ?_
  refine AllReadyH.cons (o := ⟨some 56, .call { callee := .value (.func 14), args := #[.tmp 55, .const (Value.int IntKind.u32 9)], argTypes := #[23, 24] }, _, _, _, some (25, true)⟩) rfl (fun K hK => ?_) AllReadyH.nil
  go_simp
  refine (HW.out _ _ LQ).mono ?_; rintro e v7_27 ⟨b7, c7, rfl, g⟩
  refine hK.out _ _ (by (try dsimp only); (go_split_ands; exact ⟨Kep.all g (by assumption), Kep.all g (by assumption), Kep.all g (by assumption), Kep.all g (by assumption), Kep.all g (by assumption), Kep.all g (by assumption), Kep.all g (by assumption), Kep.all g (by assumption), Kep.all g (by assumption), Kep.all g (by assumption), Kep.all g (by assumption), Kep.all g (by assumption), Kep.all g (by assumption), Kep.all g (by assumption), Kep.all g (by assumption), kep_next (by assumption) g⟩)) (fun hH2 => ?_)
  clear hK K hH; have hH := hH2; clear hH2
  try simp only [Act.put, List.setIfInBounds_toArray, List.set_cons_zero, List.set_cons_succ]
  refine rtk 28 (oi := ⟨some 57, .call { callee := .builtin Builtin.len, args := #[.tmp 56], argTypes := #[23] }, _, _, _, some (25, true)⟩) (v := ?_) rfl ?_ hH ?_
  rotate_left
  · (intro w hSw; (try dsimp only at hSw); go_simp; (try with_reducible rfl))
  try simp only [Act.put, List.setIfInBounds_toArray, List.set_cons_zero, List.set_cons_succ]
  refine rtk 29 (oi := ⟨some 58, .binOp .eql 3 (.tmp 57) (.const (Value.int IntKind.i64 2)) 3, _, _, _, some (25, true)⟩) (v := ?_) rfl ?_ hH ?_
  rotate_left
  · (intro w hSw; (try dsimp only at hSw); go_simp; (try with_reducible rfl))
  refine rtk 30 (oi := ⟨some 59, .pick (.tmp 54) (.tmp 58) (.const (Value.bool false)), _, _, _, none⟩) (v := ?_) rfl ?_ hH ?_
  rotate_left
  · (intro w hSw; (try dsimp only at hSw); go_simp; (try with_reducible rfl))
  refine rtk 31 (oi := ⟨some 0, .assign (.tmp 59), _, _, _, none⟩) (v := ?_) rfl ?_ hH ?_
  rotate_left
  · (intro w hSw; (try dsimp only at hSw); go_simp; (try with_reducible rfl))
  try simp only [Act.put, List.setIfInBounds_toArray]
  refine wpAnyH_done (by kernel_rfl) ?_ _
  refine NoPanic.normal ?_
  clear d0 d1 d2 d3 d4 s0 s1 s2 s3 s4 t0 t1 t2 t3 t4 gg
  obtain ⟨d0, d1, d2, d3, d4, s0, s1, s2, s3, s4, t0, t1, t2, t3, t4, gg⟩ := hH
  go_wp2_with fail
  go_ret
  exact ⟨rfl, gg⟩
end Go.Proofs.YtangalkbjochjaaGreatDoor
