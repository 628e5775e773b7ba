/-
  Package jacobi: the law JacobiResting.
-/
import Derived.Test.YtbeaoogjcgplnaaJacCon
import Derived.Deep.DeepCutAuto
import Derived.Deep.QuietTactic
import Derived.BigQuiet
namespace Go.Proofs.Ytbeaoogjcgplnaa
open Go.RowKit Go.Lib

theorem chk_vel {x : Bd} {a b : Int} (h : chkB x = 0) (ha : -16777216 ≤ a ∧ a ≤ 16777216) (hb : -16777216 ≤ b ∧ b ≤ 16777216) : chkB (velB x a b) = 0 := by
  unfold chkB chk at h ⊢
  show (if 4096 ≤ x.r ∧ x.r ≤ 4194304 then
    if (-4194304 ≤ x.ax ∧ x.ax ≤ 4194304) ∧ (-4194304 ≤ x.ay ∧ x.ay ≤ 4194304) then
      if 0 ≤ x.m ∧ x.m ≤ 1048576 then
        if 0 ≤ x.o ∧ x.o ≤ 65536 then
          if (-1073741824 ≤ x.px ∧ x.px ≤ 1073741824) ∧ (-1073741824 ≤ x.py ∧ x.py ≤ 1073741824) then
            if (-16777216 ≤ a ∧ a ≤ 16777216) ∧ (-16777216 ≤ b ∧ b ≤ 16777216) then (0 : Int) else 9
          else 8
        else 7
      else 6
    else 5
  else 4) = 0
  split at h
  · rename_i c1
    rw [if_pos c1]
    split at h
    · rename_i c2
      rw [if_pos c2]
      split at h
      · rename_i c3
        rw [if_pos c3]
        split at h
        · rename_i c4
          rw [if_pos c4]
          split at h
          · rename_i c5
            rw [if_pos c5, if_pos ⟨ha, hb⟩]
          · exact absurd h (by decide)
        · exact absurd h (by decide)
      · exact absurd h (by decide)
    · exact absurd h (by decide)
  · exact absurd h (by decide)
theorem vw_vel {A : List Bd} {a b : Int} (h : Vw A) (ha : -16777216 ≤ a ∧ a ≤ 16777216) (hb : -16777216 ≤ b ∧ b ≤ 16777216) : Vw (A.map fun x => velB x a b) := by
  refine ⟨asc_mapK (g := fun x => velB x a b) (fun _ => rfl) h.asc, fun x hx => ?_, fun x hx => ?_, by rw [List.length_map]; exact h.len⟩
  · obtain ⟨y, hy, rfl⟩ := List.mem_map.1 hx
    exact chk_vel (h.ok y hy) ha hb
  · obtain ⟨y, hy, rfl⟩ := List.mem_map.1 hx
    exact h.key y hy
theorem jarg_vel {A : List Bd} {C : List Ct} {a b : Int} (h : JArg A C) (ha : -16777216 ≤ a ∧ a ≤ 16777216) (hb : -16777216 ≤ b ∧ b ≤ 16777216) : JArg (A.map fun x => velB x a b) C := by
  refine ⟨vw_vel h.vw ha hb, h.few, fun c hc => ?_⟩
  obtain ⟨h1, h2, h3, h4, h5⟩ := h.rg c hc
  exact ⟨h1, by rw [look_map (g := fun x => velB x a b) (fun _ => rfl), Option.isSome_map]; exact h2, by rw [look_map (g := fun x => velB x a b) (fun _ => rfl), Option.isSome_map]; exact h3, h4, h5⟩
theorem jarg_none {A : List Bd} (h : Vw A) : JArg A [] := ⟨h, by simp, fun c hc => by simp at hc⟩
theorem slv_rest {A : List Bd} {C : List Ct} {a b : Int} (h : JArg (A.map fun x => velB x a b) C) (n : Nat) : slvN C (A.map fun x => velB x a b) n = (A.map fun x => velB x a b, false) := by
  have hs : ∀ c ∈ C, stJ (A.map fun x => velB x a b) c = 0 := fun c hc => rest_st (a := a) (b := b) (h.rg c hc) fun x hx => by
    obtain ⟨y, _, rfl⟩ := List.mem_map.1 hx
    exact ⟨rfl, rfl⟩
  exact slv_id h.vb (fun x _ => ⟨sumJ_rest hs, sumJ_rest hs⟩) n
theorem slv_none {A : List Bd} (h : Vw A) (n : Nat) : slvN [] A n = (A, false) := slv_id (jarg_none h).vb (fun _ _ => ⟨rfl, rfl⟩) n
set_option maxRecDepth 100000 in
set_option maxHeartbeats 2000000 in
theorem jrl_bad (AW : Hid JAwake) (va vb : Int) (L : List Bd) (v : Value) (w : World) (hq : Lst w v L) (C : List Ct) (l : Value) (hc : Sq ctv 5 w l C) (hvw : viwB L = false) : Calls Try.prog 6 #[v, l, .agg #[.int .i32 va, .int .i32 vb]] w fun e w' => e = .returned (.bool true) ∧ Kep w.heap.size w w' := by
  obtain ⟨base, cap, rfl⟩ := hq.shape
  have HQ := Lib.hid hq
  have HC := Lib.hid hc
  clear hq hc
  have VW : Hid (∀ v w, Lst w v L → Calls Try.prog 8 #[v] w fun e w' => ∃ v', e = .returned (.tuple #[v', .bool false]) ∧ Lst w' v' (if L.length ≤ 40 then sortL L else []) ∧ Kep w.heap.size w w') := Lib.hid (fun v w h => (rvw L v w h).mono fun e w' ⟨v', h1, h2, h3⟩ => ⟨v', by rw [h1]; rw [hvw], h2.1, h3⟩)
  clear HC
  go_enter Try.func6, Try.ntmps6
  go_wp2_with (first
    | ((with_reducible refine (VW.out _ _ (HQ.out.kep (kep_more (Kep.refl _ _) _))).mono ?_); rintro e w1 ⟨v1, rfl, l1, g1⟩
       have p0 := Kep.all g1 (a := ⟨w.heap.size, 0, none⟩) (v := .int .i32 va) (by (repeat (first | rw [World.cell?_drew] | rw [World.cell?_alloc_past _ _ _ (by first | (simp; done) | (simp; omega))])); rw [World.cell?_alloc_at _ _ _ _ (by simp)]; rfl)
       have p1 := Kep.all g1 (a := ⟨w.heap.size, 1, none⟩) (v := .int .i32 vb) (by (repeat (first | rw [World.cell?_drew] | rw [World.cell?_alloc_past _ _ _ (by first | (simp; done) | (simp; omega))])); rw [World.cell?_alloc_at _ _ _ _ (by simp)]; rfl)
       have gg := kep_next (kep_more (Kep.refl _ _) _) g1
       have zp_w1 : w.heap.size < w1.heap.size := World.block_lt_of_cell? _ _ p0)
    | ((with_reducible refine (AW.out _).mono ?_); rintro e w2 ⟨rfl, g2⟩
       replace p0 := Kep.all g2 (a := ⟨w.heap.size, 0, none⟩) (v := .int .i32 va) p0
       replace p1 := Kep.all g2 (a := ⟨w.heap.size, 1, none⟩) (v := .int .i32 vb) p1
       replace gg := kep_next gg g2
       replace l1 := l1.kep g2
       have zp_w2 : w.heap.size < w2.heap.size := World.block_lt_of_cell? _ _ p0))
  go_ret
  exact ⟨rfl, gg⟩
set_option maxRecDepth 100000 in
set_option maxHeartbeats 2000000 in
theorem jrl_not (AW : Hid JAwake) (va vb : Int) (L : List Bd) (v : Value) (w : World) (hq : Lst w v L) (C : List Ct) (l : Value) (hc : Sq ctv 5 w l C) (HF : Hid (∀ x ∈ L, Fits x)) (hvw : viwB L = true) (hr : rgtJ (sortL L) C = false) : Calls Try.prog 6 #[v, l, .agg #[.int .i32 va, .int .i32 vb]] w fun e w' => e = .returned (.bool true) ∧ Kep w.heap.size w w' := by
  obtain ⟨base, cap, rfl⟩ := hq.shape
  have HQ := Lib.hid hq
  have HC := Lib.hid hc
  clear hq hc
  have VW : Hid (∀ v w, Lst w v L → Calls Try.prog 8 #[v] w fun e w' => ∃ v', e = .returned (.tuple #[v', .bool true]) ∧ Lst w' v' (sortL L) ∧ Kep w.heap.size w w') := Lib.hid (fun v w h => (rvw L v w h).mono fun e w' ⟨v', h1, h2, h3⟩ => ⟨v', by rw [h1]; rw [hvw], by have := h2.1; rw [if_pos (vw_of hvw HF.out).1] at this; exact this, h3⟩)
  have HVW := Lib.hid (vw_of hvw HF.out).2.2
  obtain ⟨A, hA⟩ : ∃ A, A = sortL L := ⟨_, rfl⟩
  rw [← hA] at VW HVW hr
  clear hA
  have RR := Lib.hid (show RRj A C false by rw [← hr]; exact rrj A (by have := HVW.out.len; omega) C)
  go_enter Try.func6, Try.ntmps6
  go_wp2_with (first
    | ((with_reducible refine (VW.out _ _ (HQ.out.kep (kep_more (Kep.refl _ _) _))).mono ?_); rintro e w1 ⟨v1, rfl, l1, g1⟩
       have p0 := Kep.all g1 (a := ⟨w.heap.size, 0, none⟩) (v := .int .i32 va) (by (repeat (first | rw [World.cell?_drew] | rw [World.cell?_alloc_past _ _ _ (by first | (simp; done) | (simp; omega))])); rw [World.cell?_alloc_at _ _ _ _ (by simp)]; rfl)
       have p1 := Kep.all g1 (a := ⟨w.heap.size, 1, none⟩) (v := .int .i32 vb) (by (repeat (first | rw [World.cell?_drew] | rw [World.cell?_alloc_past _ _ _ (by first | (simp; done) | (simp; omega))])); rw [World.cell?_alloc_at _ _ _ _ (by simp)]; rfl)
       have gg := kep_next (kep_more (Kep.refl _ _) _) g1
       have zp_w1 : w.heap.size < w1.heap.size := World.block_lt_of_cell? _ _ p0)
    | ((with_reducible refine (AW.out _).mono ?_); rintro e w2 ⟨rfl, g2⟩
       replace p0 := Kep.all g2 (a := ⟨w.heap.size, 0, none⟩) (v := .int .i32 va) p0
       replace p1 := Kep.all g2 (a := ⟨w.heap.size, 1, none⟩) (v := .int .i32 vb) p1
       replace gg := kep_next gg g2
       replace l1 := l1.kep g2
       have zp_w2 : w.heap.size < w2.heap.size := World.block_lt_of_cell? _ _ p0)
    | ((with_reducible refine (RR.out _ _ _ l1 (HC.out.kep gg)).mono ?_); rintro e w3 ⟨rfl, g3⟩
       replace p0 := Kep.all g3 (a := ⟨w.heap.size, 0, none⟩) (v := .int .i32 va) p0
       replace p1 := Kep.all g3 (a := ⟨w.heap.size, 1, none⟩) (v := .int .i32 vb) p1
       replace gg := kep_next gg g3
       replace l1 := l1.kep g3
       have zp_w3 : w.heap.size < w3.heap.size := World.block_lt_of_cell? _ _ p0))
  go_ret
  exact ⟨rfl, gg⟩
set_option maxRecDepth 100000 in
set_option maxHeartbeats 8000000 in
theorem jrl_far (AW : Hid JAwake) (va vb : Int) (L : List Bd) (v : Value) (w : World) (hq : Lst w v L) (C : List Ct) (l : Value) (hc : Sq ctv 5 w l C) (HF : Hid (∀ x ∈ L, Fits x)) (hvw : viwB L = true) (hr : rgtJ (sortL L) C = true) (hv : ¬ ((-16777216 ≤ va ∧ va ≤ 16777216) ∧ (-16777216 ≤ vb ∧ vb ≤ 16777216))) : Calls Try.prog 6 #[v, l, .agg #[.int .i32 va, .int .i32 vb]] w fun e w' => e = .returned (.bool true) ∧ Kep w.heap.size w w' := by
  obtain ⟨base, cap, rfl⟩ := hq.shape
  have HQ := Lib.hid hq
  have HC := Lib.hid hc
  clear hq hc
  have VW : Hid (∀ v w, Lst w v L → Calls Try.prog 8 #[v] w fun e w' => ∃ v', e = .returned (.tuple #[v', .bool true]) ∧ Lst w' v' (sortL L) ∧ Kep w.heap.size w w') := Lib.hid (fun v w h => (rvw L v w h).mono fun e w' ⟨v', h1, h2, h3⟩ => ⟨v', by rw [h1]; rw [hvw], by have := h2.1; rw [if_pos (vw_of hvw HF.out).1] at this; exact this, h3⟩)
  have HVW := Lib.hid (vw_of hvw HF.out).2.2
  obtain ⟨A, hA⟩ : ∃ A, A = sortL L := ⟨_, rfl⟩
  rw [← hA] at VW HVW hr
  clear hA
  have RR := Lib.hid (show RRj A C true by rw [← hr]; exact rrj A (by have := HVW.out.len; omega) C)
  have HJ := Lib.hid (jarg HVW.out hr)
  clear hr
  clear HJ
  by_cases e0 : va < -16777216
  · have d0 : decide (va < -16777216) = true := decide_eq_true e0
    clear hv e0
    go_enter Try.func6, Try.ntmps6
    go_wp2_with (first
      | ((with_reducible refine (VW.out _ _ (HQ.out.kep (kep_more (Kep.refl _ _) _))).mono ?_); rintro e w1 ⟨v1, rfl, l1, g1⟩
         have p0 := Kep.all g1 (a := ⟨w.heap.size, 0, none⟩) (v := .int .i32 va) (by (repeat (first | rw [World.cell?_drew] | rw [World.cell?_alloc_past _ _ _ (by first | (simp; done) | (simp; omega))])); rw [World.cell?_alloc_at _ _ _ _ (by simp)]; rfl)
         have p1 := Kep.all g1 (a := ⟨w.heap.size, 1, none⟩) (v := .int .i32 vb) (by (repeat (first | rw [World.cell?_drew] | rw [World.cell?_alloc_past _ _ _ (by first | (simp; done) | (simp; omega))])); rw [World.cell?_alloc_at _ _ _ _ (by simp)]; rfl)
         have gg := kep_next (kep_more (Kep.refl _ _) _) g1
         have zp_w1 : w.heap.size < w1.heap.size := World.block_lt_of_cell? _ _ p0)
      | ((with_reducible refine (AW.out _).mono ?_); rintro e w2 ⟨rfl, g2⟩
         replace p0 := Kep.all g2 (a := ⟨w.heap.size, 0, none⟩) (v := .int .i32 va) p0
         replace p1 := Kep.all g2 (a := ⟨w.heap.size, 1, none⟩) (v := .int .i32 vb) p1
         replace gg := kep_next gg g2
         replace l1 := l1.kep g2
         have zp_w2 : w.heap.size < w2.heap.size := World.block_lt_of_cell? _ _ p0)
      | ((with_reducible refine (RR.out _ _ _ l1 (HC.out.kep gg)).mono ?_); rintro e w3 ⟨rfl, g3⟩
         replace p0 := Kep.all g3 (a := ⟨w.heap.size, 0, none⟩) (v := .int .i32 va) p0
         replace p1 := Kep.all g3 (a := ⟨w.heap.size, 1, none⟩) (v := .int .i32 vb) p1
         replace gg := kep_next gg g3
         replace l1 := l1.kep g3
         have zp_w3 : w.heap.size < w3.heap.size := World.block_lt_of_cell? _ _ p0))
    go_ret
    exact ⟨rfl, gg⟩
  by_cases e1 : 16777216 < va
  · have d1 : decide (16777216 < va) = true := decide_eq_true e1
    have d0 : decide (va < -16777216) = false := decide_eq_false e0
    clear hv e0 e1
    go_enter Try.func6, Try.ntmps6
    go_wp2_with (first
      | ((with_reducible refine (VW.out _ _ (HQ.out.kep (kep_more (Kep.refl _ _) _))).mono ?_); rintro e w1 ⟨v1, rfl, l1, g1⟩
         have p0 := Kep.all g1 (a := ⟨w.heap.size, 0, none⟩) (v := .int .i32 va) (by (repeat (first | rw [World.cell?_drew] | rw [World.cell?_alloc_past _ _ _ (by first | (simp; done) | (simp; omega))])); rw [World.cell?_alloc_at _ _ _ _ (by simp)]; rfl)
         have p1 := Kep.all g1 (a := ⟨w.heap.size, 1, none⟩) (v := .int .i32 vb) (by (repeat (first | rw [World.cell?_drew] | rw [World.cell?_alloc_past _ _ _ (by first | (simp; done) | (simp; omega))])); rw [World.cell?_alloc_at _ _ _ _ (by simp)]; rfl)
         have gg := kep_next (kep_more (Kep.refl _ _) _) g1
         have zp_w1 : w.heap.size < w1.heap.size := World.block_lt_of_cell? _ _ p0)
      | ((with_reducible refine (AW.out _).mono ?_); rintro e w2 ⟨rfl, g2⟩
         replace p0 := Kep.all g2 (a := ⟨w.heap.size, 0, none⟩) (v := .int .i32 va) p0
         replace p1 := Kep.all g2 (a := ⟨w.heap.size, 1, none⟩) (v := .int .i32 vb) p1
         replace gg := kep_next gg g2
         replace l1 := l1.kep g2
         have zp_w2 : w.heap.size < w2.heap.size := World.block_lt_of_cell? _ _ p0)
      | ((with_reducible refine (RR.out _ _ _ l1 (HC.out.kep gg)).mono ?_); rintro e w3 ⟨rfl, g3⟩
         replace p0 := Kep.all g3 (a := ⟨w.heap.size, 0, none⟩) (v := .int .i32 va) p0
         replace p1 := Kep.all g3 (a := ⟨w.heap.size, 1, none⟩) (v := .int .i32 vb) p1
         replace gg := kep_next gg g3
         replace l1 := l1.kep g3
         have zp_w3 : w.heap.size < w3.heap.size := World.block_lt_of_cell? _ _ p0))
    go_ret
    exact ⟨rfl, gg⟩
  by_cases e2 : vb < -16777216
  · have d2 : decide (vb < -16777216) = true := decide_eq_true e2
    have d0 : decide (va < -16777216) = false := decide_eq_false e0
    have d1 : decide (16777216 < va) = false := decide_eq_false e1
    clear hv e0 e1 e2
    go_enter Try.func6, Try.ntmps6
    go_wp2_with (first
      | ((with_reducible refine (VW.out _ _ (HQ.out.kep (kep_more (Kep.refl _ _) _))).mono ?_); rintro e w1 ⟨v1, rfl, l1, g1⟩
         have p0 := Kep.all g1 (a := ⟨w.heap.size, 0, none⟩) (v := .int .i32 va) (by (repeat (first | rw [World.cell?_drew] | rw [World.cell?_alloc_past _ _ _ (by first | (simp; done) | (simp; omega))])); rw [World.cell?_alloc_at _ _ _ _ (by simp)]; rfl)
         have p1 := Kep.all g1 (a := ⟨w.heap.size, 1, none⟩) (v := .int .i32 vb) (by (repeat (first | rw [World.cell?_drew] | rw [World.cell?_alloc_past _ _ _ (by first | (simp; done) | (simp; omega))])); rw [World.cell?_alloc_at _ _ _ _ (by simp)]; rfl)
         have gg := kep_next (kep_more (Kep.refl _ _) _) g1
         have zp_w1 : w.heap.size < w1.heap.size := World.block_lt_of_cell? _ _ p0)
      | ((with_reducible refine (AW.out _).mono ?_); rintro e w2 ⟨rfl, g2⟩
         replace p0 := Kep.all g2 (a := ⟨w.heap.size, 0, none⟩) (v := .int .i32 va) p0
         replace p1 := Kep.all g2 (a := ⟨w.heap.size, 1, none⟩) (v := .int .i32 vb) p1
         replace gg := kep_next gg g2
         replace l1 := l1.kep g2
         have zp_w2 : w.heap.size < w2.heap.size := World.block_lt_of_cell? _ _ p0)
      | ((with_reducible refine (RR.out _ _ _ l1 (HC.out.kep gg)).mono ?_); rintro e w3 ⟨rfl, g3⟩
         replace p0 := Kep.all g3 (a := ⟨w.heap.size, 0, none⟩) (v := .int .i32 va) p0
         replace p1 := Kep.all g3 (a := ⟨w.heap.size, 1, none⟩) (v := .int .i32 vb) p1
         replace gg := kep_next gg g3
         replace l1 := l1.kep g3
         have zp_w3 : w.heap.size < w3.heap.size := World.block_lt_of_cell? _ _ p0))
    go_ret
    exact ⟨rfl, gg⟩
  by_cases e3 : 16777216 < vb
  · have d3 : decide (16777216 < vb) = true := decide_eq_true e3
    have d0 : decide (va < -16777216) = false := decide_eq_false e0
    have d1 : decide (16777216 < va) = false := decide_eq_false e1
    have d2 : decide (vb < -16777216) = false := decide_eq_false e2
    clear hv e0 e1 e2 e3
    go_enter Try.func6, Try.ntmps6
    go_wp2_with (first
      | ((with_reducible refine (VW.out _ _ (HQ.out.kep (kep_more (Kep.refl _ _) _))).mono ?_); rintro e w1 ⟨v1, rfl, l1, g1⟩
         have p0 := Kep.all g1 (a := ⟨w.heap.size, 0, none⟩) (v := .int .i32 va) (by (repeat (first | rw [World.cell?_drew] | rw [World.cell?_alloc_past _ _ _ (by first | (simp; done) | (simp; omega))])); rw [World.cell?_alloc_at _ _ _ _ (by simp)]; rfl)
         have p1 := Kep.all g1 (a := ⟨w.heap.size, 1, none⟩) (v := .int .i32 vb) (by (repeat (first | rw [World.cell?_drew] | rw [World.cell?_alloc_past _ _ _ (by first | (simp; done) | (simp; omega))])); rw [World.cell?_alloc_at _ _ _ _ (by simp)]; rfl)
         have gg := kep_next (kep_more (Kep.refl _ _) _) g1
         have zp_w1 : w.heap.size < w1.heap.size := World.block_lt_of_cell? _ _ p0)
      | ((with_reducible refine (AW.out _).mono ?_); rintro e w2 ⟨rfl, g2⟩
         replace p0 := Kep.all g2 (a := ⟨w.heap.size, 0, none⟩) (v := .int .i32 va) p0
         replace p1 := Kep.all g2 (a := ⟨w.heap.size, 1, none⟩) (v := .int .i32 vb) p1
         replace gg := kep_next gg g2
         replace l1 := l1.kep g2
         have zp_w2 : w.heap.size < w2.heap.size := World.block_lt_of_cell? _ _ p0)
      | ((with_reducible refine (RR.out _ _ _ l1 (HC.out.kep gg)).mono ?_); rintro e w3 ⟨rfl, g3⟩
         replace p0 := Kep.all g3 (a := ⟨w.heap.size, 0, none⟩) (v := .int .i32 va) p0
         replace p1 := Kep.all g3 (a := ⟨w.heap.size, 1, none⟩) (v := .int .i32 vb) p1
         replace gg := kep_next gg g3
         replace l1 := l1.kep g3
         have zp_w3 : w.heap.size < w3.heap.size := World.block_lt_of_cell? _ _ p0))
    go_ret
    exact ⟨rfl, gg⟩
  exact absurd ⟨⟨by omega, by omega⟩, by omega, by omega⟩ hv
set_option maxRecDepth 100000 in
set_option maxHeartbeats 8000000 in
theorem jrl_ok (O : JOps) (AW : Hid JAwake) (va vb : Int) (L : List Bd) (v : Value) (w : World) (hq : Lst w v L) (C : List Ct) (l : Value) (hc : Sq ctv 5 w l C) (HF : Hid (∀ x ∈ L, Fits x)) (hvw : viwB L = true) (hr : rgtJ (sortL L) C = true) (ha : -16777216 ≤ va ∧ va ≤ 16777216) (hb : -16777216 ≤ vb ∧ vb ≤ 16777216) : Calls Try.prog 6 #[v, l, .agg #[.int .i32 va, .int .i32 vb]] w fun e w' => e = .returned (.bool true) ∧ Kep w.heap.size w w' := by
  obtain ⟨base, cap, rfl⟩ := hq.shape
  have HQ := Lib.hid hq
  have HC := Lib.hid hc
  clear hq hc
  have VW : Hid (∀ v w, Lst w v L → Calls Try.prog 8 #[v] w fun e w' => ∃ v', e = .returned (.tuple #[v', .bool true]) ∧ Lst w' v' (sortL L) ∧ Kep w.heap.size w w') := Lib.hid (fun v w h => (rvw L v w h).mono fun e w' ⟨v', h1, h2, h3⟩ => ⟨v', by rw [h1]; rw [hvw], by have := h2.1; rw [if_pos (vw_of hvw HF.out).1] at this; exact this, h3⟩)
  have HVW := Lib.hid (vw_of hvw HF.out).2.2
  obtain ⟨A, hA⟩ : ∃ A, A = sortL L := ⟨_, rfl⟩
  rw [← hA] at VW HVW hr
  clear hA
  have RR := Lib.hid (show RRj A C true by rw [← hr]; exact rrj A (by have := HVW.out.len; omega) C)
  have HJ := Lib.hid (jarg HVW.out hr)
  clear hr
  have HJS := Lib.hid (jarg_vel HJ.out ha hb)
  have PV := Lib.hid (fun v w h k => (show Calls Try.prog 14 #[v, l] w fun e w' => ∃ v', e = .returned (.tuple #[v', .bool false]) ∧ (Lst w' v' (A.map fun x => velB x va vb) ∧ NewZ w v' w') ∧ Kep w.heap.size w w' by have := O.solve v (A.map fun x => velB x va vb) l C w h k HJS.out; rw [slv_rest HJS.out] at this; exact this))
  have PN := Lib.hid (fun v w h => (show Calls Try.prog 14 #[v, .slice none 0 0] w fun e w' => ∃ v', e = .returned (.tuple #[v', .bool false]) ∧ (Lst w' v' A ∧ NewZ w v' w') ∧ Kep w.heap.size w w' by have := O.solve v A (.slice none 0 0) [] w h Sq.nil (jarg_none HVW.out); rw [slv_none HVW.out] at this; exact this))
  have hal := HVW.out.len
  have LS1 := Lib.hid (fun x y w h1 h2 => same_any x y (A.map fun x => velB x va vb) w h1 h2 (by rw [List.length_map]; omega))
  have LS2 := Lib.hid (fun x y w h1 h2 => same_any x y A w h1 h2 (by omega))
  have HLN := Lib.hid (fun (k : Nat) (hk : k ≤ A.length) => (show ((A.take k).map fun x => velB x va vb).length = k by rw [List.length_map, List.length_take]; omega))
  have d0 : decide (va < -16777216) = false := decide_eq_false (by omega)
  have d1 : decide (16777216 < va) = false := decide_eq_false (by omega)
  have d2 : decide (vb < -16777216) = false := decide_eq_false (by omega)
  have d3 : decide (16777216 < vb) = false := decide_eq_false (by omega)
  clear ha hb
  go_enter Try.func6, Try.ntmps6
  go_wp2_with (first
    | ((with_reducible refine (VW.out _ _ (HQ.out.kep (kep_more (Kep.refl _ _) _))).mono ?_); rintro e w1 ⟨v1, rfl, l1, g1⟩
       have p0 := Kep.all g1 (a := ⟨w.heap.size, 0, none⟩) (v := .int .i32 va) (by (repeat (first | rw [World.cell?_drew] | rw [World.cell?_alloc_past _ _ _ (by first | (simp; done) | (simp; omega))])); rw [World.cell?_alloc_at _ _ _ _ (by simp)]; rfl)
       have p1 := Kep.all g1 (a := ⟨w.heap.size, 1, none⟩) (v := .int .i32 vb) (by (repeat (first | rw [World.cell?_drew] | rw [World.cell?_alloc_past _ _ _ (by first | (simp; done) | (simp; omega))])); rw [World.cell?_alloc_at _ _ _ _ (by simp)]; rfl)
       have gg := kep_next (kep_more (Kep.refl _ _) _) g1
       have zp_w1 : w.heap.size < w1.heap.size := World.block_lt_of_cell? _ _ p0)
    | ((with_reducible refine (AW.out _).mono ?_); rintro e w2 ⟨rfl, g2⟩
       replace p0 := Kep.all g2 (a := ⟨w.heap.size, 0, none⟩) (v := .int .i32 va) p0
       replace p1 := Kep.all g2 (a := ⟨w.heap.size, 1, none⟩) (v := .int .i32 vb) p1
       replace gg := kep_next gg g2
       replace l1 := l1.kep g2
       have zp_w2 : w.heap.size < w2.heap.size := World.block_lt_of_cell? _ _ p0)
    | ((with_reducible refine (RR.out _ _ _ l1 (HC.out.kep gg)).mono ?_); rintro e w3 ⟨rfl, g3⟩
       replace p0 := Kep.all g3 (a := ⟨w.heap.size, 0, none⟩) (v := .int .i32 va) p0
       replace p1 := Kep.all g3 (a := ⟨w.heap.size, 1, none⟩) (v := .int .i32 vb) p1
       replace gg := kep_next gg g3
       replace l1 := l1.kep g3
       have zp_w3 : w.heap.size < w3.heap.size := World.block_lt_of_cell? _ _ p0))
  have HP0 := Lib.hid p0
  have HP1 := Lib.hid p1
  obtain ⟨ba, ca, rfl⟩ := l1.shape
  have HL := Lib.hid l1
  have HLA := Lib.hid (fun (k : Nat) (x : Bd) (hx : A[k]? = some x) => l1.at_ hx)
  have G0 := Lib.hid gg
  have HW3 := gg.size
  clear gg l1 p0 p1
  generalize hna : A.length = na at *
  have HN := Lib.hid hna
  clear hna
  go_loopw [9, 10] (fun out i wr => ∃ k : Nat, k ≤ na ∧ i = .int .i64 k ∧ Hid (wr.ownsRow w3.heap.size 44 10 out ((A.take k).map fun x => velB x va vb).length (((A.take k).map fun x => velB x va vb).flatMap vals) ∧ Kep w3.heap.size w3 wr)) (fun _ i _ => na - (RowKit.intOf i).toNat)
  case atStart => exact ⟨0, by omega, rfl, Lib.hid ⟨World.ownsRow_nil _ _ _ _, Kep.refl _ _⟩⟩
  case round =>
    obtain ⟨k, hk, rfl, HP⟩ := hrel
    have gi := HP.out.2
    have HO := Lib.hid HP.out.1
    by_cases hlt : k < na
    · have hb : A[k]? = some (A[k]'(by rw [HN.out]; exact hlt)) := List.getElem?_eq_getElem _
      generalize A[k]'(by rw [HN.out]; exact hlt) = x at hb
      obtain ⟨gl, off, rfl, qx⟩ := HLA.out k x hb
      have HT : Hid (((A.take (k + 1)).map fun x => velB x va vb) = ((A.take k).map fun x => velB x va vb) ++ [velB x va vb]) := Lib.hid (by rw [List.take_add_one, hb]; simp)
      have s0 : wr.cell? ⟨gl, off + k * 10, none⟩ = some (.int .u32 x.k) := gi.all (qx 0 (by decide))
      have s1 : wr.cell? ⟨gl, off + k * 10 + 1, none⟩ = some (.int .i32 x.r) := gi.all (qx 1 (by decide))
      have s2 : wr.cell? ⟨gl, off + k * 10 + 2, none⟩ = some (.int .i32 x.ax) := gi.all (qx 2 (by decide))
      have s3 : wr.cell? ⟨gl, off + k * 10 + 3, none⟩ = some (.int .i32 x.ay) := gi.all (qx 3 (by decide))
      have s4 : wr.cell? ⟨gl, off + k * 10 + 4, none⟩ = some (.int .i32 x.m) := gi.all (qx 4 (by decide))
      have s5 : wr.cell? ⟨gl, off + k * 10 + 5, none⟩ = some (.int .i32 x.o) := gi.all (qx 5 (by decide))
      have s6 : wr.cell? ⟨gl, off + k * 10 + 6, none⟩ = some (.int .i32 x.px) := gi.all (qx 6 (by decide))
      have s7 : wr.cell? ⟨gl, off + k * 10 + 7, none⟩ = some (.int .i32 x.py) := gi.all (qx 7 (by decide))
      have s8 : wr.cell? ⟨gl, off + k * 10 + 8, none⟩ = some (.int .i32 x.vx) := gi.all (qx 8 (by decide))
      have s9 : wr.cell? ⟨gl, off + k * 10 + 9, none⟩ = some (.int .i32 x.vy) := gi.all (qx 9 (by decide))
      have p0 := gi.all HP0.out
      have p1 := gi.all HP1.out
      have hln := HLN.out k hk
      have zp := World.block_lt_of_cell? _ _ p0
      have zs := World.block_lt_of_cell? _ _ s0
      dsimp only at zp zs
      clear hb qx HP
      go_wp2_with (first
        | (at_builtin; refine wpList_app vals 10 vals_lenK vals_oneK rfl _ _ 22 rfl 44 _ 40 Try.underlying22 info_body rfl (by decide) w3.heap.size _ _ ((A.take k).map fun x => velB x va vb) (velB x va vb) rfl (World.ownsRow.alloc HO.out _) _ (by first | rfl | simp) rfl _ rfl (by rw [hln]; unfold maxLen; omega) (by rw [hln]; omega) (Nat.le_trans gi.size (by simp)) ?_; intro v4 w4 o4 k4))
      have HM : Hid (w4.ownsRow w3.heap.size 44 10 v4 ((A.take (k + 1)).map fun x => velB x va vb).length (((A.take (k + 1)).map fun x => velB x va vb).flatMap vals) ∧ Kep w3.heap.size w3 w4) := Lib.hid ⟨by rw [HT.out]; exact o4, Kep.trans (gi.alloc gi.size _) k4⟩
      clear o4 k4 hln
      go_roundw
      case rel => exact ⟨k + 1, by omega, by go_num, HM⟩
      case measure => simp [RowKit.intOf]; omega
    · obtain rfl : k = na := by omega
      have h1 := HO.out
      rw [List.take_of_length_le (by rw [HN.out]; omega)] at h1
      have ls := own_lst h1
      have l1 := HL.out.kep gi
      have gg := kep_next G0.out gi
      clear h1 HP HO
      go_wp2_with (first
        | ((with_reducible refine (PV.out _ _ ls (HC.out.kep gg)).mono ?_); rintro e w5 ⟨v5, rfl, ⟨s5, _⟩, g5⟩; replace l1 := l1.kep g5; replace ls := ls.kep g5; replace gg := kep_next gg g5)
        | ((with_reducible refine (PN.out _ _ l1).mono ?_); rintro e w6 ⟨v6, rfl, ⟨s6, _⟩, g6⟩; replace l1 := l1.kep g6; replace ls := ls.kep g6; replace s5 := s5.kep g6; replace gg := kep_next gg g6)
        | ((with_reducible refine (LS1.out _ _ _ s5 ls).mono ?_); rintro e w7 ⟨rfl, g7⟩; replace l1 := l1.kep g7; replace s6 := s6.kep g7; replace gg := kep_next gg g7)
        | ((with_reducible refine (LS2.out _ _ _ s6 l1).mono ?_); rintro e w8 ⟨rfl, g8⟩; replace gg := kep_next gg g8))
      go_ret
      exact ⟨rfl, gg⟩
/-- The law JacobiResting. -/
theorem jrl_law (O : JOps) (AW : JAwake) (va vb : Int) (L : List Bd) (v : Value) (w : World) (hq : Lst w v L) (C : List Ct) (l : Value) (hc : Sq ctv 5 w l C) (HF : ∀ x ∈ L, Fits x) : Calls Try.prog 6 #[v, l, .agg #[.int .i32 va, .int .i32 vb]] w fun e w' => e = .returned (.bool true) ∧ Kep w.heap.size w w' := by
  cases hvw : viwB L
  · exact jrl_bad (Lib.hid AW) va vb L v w hq C l hc hvw
  · cases hr : rgtJ (sortL L) C
    · exact jrl_not (Lib.hid AW) va vb L v w hq C l hc (Lib.hid HF) hvw hr
    · by_cases hv : (-16777216 ≤ va ∧ va ≤ 16777216) ∧ (-16777216 ≤ vb ∧ vb ≤ 16777216)
      · exact jrl_ok O (Lib.hid AW) va vb L v w hq C l hc (Lib.hid HF) hvw hr hv.1 hv.2
      · exact jrl_far (Lib.hid AW) va vb L v w hq C l hc (Lib.hid HF) hvw hr hv
end Go.Proofs.Ytbeaoogjcgplnaa
