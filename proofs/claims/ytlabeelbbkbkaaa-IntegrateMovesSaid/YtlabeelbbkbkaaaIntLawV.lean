/-
  Package integrate: the law IntegrateMoves.
-/
import Derived.Test.YtlabeelbbkbkaaaIntLib
import Derived.Test.YtlabeelbbkbkaaaIntMvd
import Derived.Deep.DeepCutAuto
import Derived.Deep.QuietTactic
import Derived.BigQuiet
namespace Go.Proofs.Ytlabeelbbkbkaaa
open Go.RowKit Go.Lib

theorem mtC_no {x : Bd} {s : Sh} (h : mtC x s = false) : mtB x s = plB x (mtX x s) (mtY x s) ∧ (-1073741824 ≤ mtX x s ∧ mtX x s ≤ 1073741824) ∧ (-1073741824 ≤ mtY x s ∧ mtY x s ≤ 1073741824) := by
  unfold mtC at h
  rw [Bool.or_eq_false_iff, decide_eq_false_iff_not, decide_eq_false_iff_not, Decidable.not_not, Decidable.not_not] at h
  have b1 := limW_bd (mtX x s)
  have b2 := limW_bd (mtY x s)
  rw [h.1] at b1
  rw [h.2] at b2
  unfold mtB
  rw [h.1, h.2]
  exact ⟨rfl, b1, b2⟩
theorem mvd_one {a b : Int} {x : Bd} {s : Sh} (h1 : mtC x s = false) (h2 : mtC (mvdB a b x) s = false) : mvdO a b (mtB x s) = true ∧ mvdB a b (mtB x s) = mtB (mvdB a b x) s := by
  obtain ⟨e1, _, _⟩ := mtC_no h1
  obtain ⟨e2, r1, r2⟩ := mtC_no h2
  have k1 : mtX (mvdB a b x) s = mtX x s + a := by
    show x.px + a + s.1 + x.vx / 64 = x.px + s.1 + x.vx / 64 + a
    omega
  have k2 : mtY (mvdB a b x) s = mtY x s + b := by
    show x.py + b + s.2 + x.vy / 64 = x.py + s.2 + x.vy / 64 + b
    omega
  rw [k1] at r1
  rw [k2] at r2
  rw [e1, e2, k1, k2]
  exact ⟨decide_eq_true ⟨r1, r2⟩, rfl⟩
theorem mvd_moveL {a b : Int} : ∀ (A : List Bd) (T : List Sh), T.length = A.length → (∀ z ∈ mtA A T, z = false) → (∀ z ∈ mtA (A.map (mvdB a b)) T, z = false) → (mtL A T).all (mvdO a b) = true ∧ (mtL A T).map (mvdB a b) = mtL (A.map (mvdB a b)) T
  | [], _, _, _, _ => ⟨rfl, rfl⟩
  | x :: A, [], h, _, _ => by simp at h
  | x :: A, s :: T, h, h1, h2 => by
    have hl : T.length = A.length := by simpa using h
    have q := mvd_one (h1 _ (List.mem_cons_self ..)) (h2 _ (List.mem_cons_self ..))
    have r := mvd_moveL A T hl (fun z hz => h1 z (List.mem_cons_of_mem _ hz)) (fun z hz => h2 z (List.mem_cons_of_mem _ hz))
    constructor
    · show (mtB x s :: mtL A T).all _ = true
      rw [List.all_cons, q.1, r.1]
      rfl
    · show mvdB a b (mtB x s) :: (mtL A T).map _ = mtB (mvdB a b x) s :: mtL (A.map _) T
      rw [q.2, r.2]
theorem mvd_move {a b : Int} {A : List Bd} {T : List Sh} (hT : T.length = A.length) (hg : A.all (mvdO a b) = true) (h1 : (mtA A T).any id = false) (h2 : (mtA (mvdL a b A) T).any id = false) : mvdL a b (mtL A T) = mtL (mvdL a b A) T := by
  have e : mvdL a b A = A.map (mvdB a b) := if_pos hg
  rw [e] at h2 ⊢
  have f : ∀ {Z : List Bool}, Z.any id = false → ∀ z ∈ Z, z = false := fun h z hz => by
    have := List.any_eq_false.1 h z hz
    simpa using this
  have r := mvd_moveL A T hT (f h1) (f h2)
  unfold mvdL
  rw [if_pos r.1]
  exact r.2
theorem mtL_ok {L : List Bd} {S : List Sh} (h : ∀ x ∈ L, okI x) : ∀ y ∈ mtL L S, okI y := fun y hy => by
  obtain ⟨x, s, hx, _, rfl⟩ := mtL_mem hy
  exact ok_mv s (h x hx)
set_option maxRecDepth 100000 in
set_option maxHeartbeats 2000000 in
theorem yvl_bad (AW : Hid YAwake) (da db : Int) (L : List Bd) (v : Value) (w : World) (hq : Lst w v L) (S : List Sh) (sv : Value) (hs : Sq shv 2 w sv S) (hvw : viwB L = false) : Calls Try.prog 5 #[v, sv, .agg #[.int .i32 da, .int .i32 db]] w fun e w' => e = .returned (.bool true) ∧ Kep w.heap.size w w' := by
  obtain ⟨base, cap, rfl⟩ := hq.shape
  have HQ := Lib.hid hq
  have HC := Lib.hid hs
  clear hq hs
  have VW : Hid (∀ v w, Lst w v L → Calls Try.prog 8 #[v] w fun e w' => ∃ v', e = .returned (.tuple #[v', .bool false]) ∧ Lst w' v' (if L.length ≤ 40 then sortL L else []) ∧ Kep w.heap.size w w') := Lib.hid (fun v w h => (rvw L v w h).mono fun e w' ⟨v', h1, h2, h3⟩ => ⟨v', by rw [h1]; rw [hvw], h2.1, h3⟩)
  clear HC
  go_enter Try.func5, Try.ntmps5
  go_wp2_with (first
    | ((with_reducible refine (VW.out _ _ (HQ.out.kep (kep_more (Kep.refl _ _) _))).mono ?_); rintro e w1 ⟨v1, rfl, l1, g1⟩
       have d0 := Kep.all g1 (a := ⟨w.heap.size, 0, none⟩) (v := .int .i32 da) (by (repeat (first | rw [World.cell?_drew] | rw [World.cell?_alloc_past _ _ _ (by first | (simp; done) | (simp; omega))])); rw [World.cell?_alloc_at _ _ _ _ (by simp)]; rfl)
       have d1 := Kep.all g1 (a := ⟨w.heap.size, 1, none⟩) (v := .int .i32 db) (by (repeat (first | rw [World.cell?_drew] | rw [World.cell?_alloc_past _ _ _ (by first | (simp; done) | (simp; omega))])); rw [World.cell?_alloc_at _ _ _ _ (by simp)]; rfl)
       have gg := kep_next (kep_more (Kep.refl _ _) _) g1
       have zd_w1 : w.heap.size < w1.heap.size := World.block_lt_of_cell? _ _ d0)
    | ((with_reducible refine (AW.out _).mono ?_); rintro e w2 ⟨rfl, g2⟩
       replace d0 := Kep.all g2 (a := ⟨w.heap.size, 0, none⟩) (v := .int .i32 da) d0
       replace d1 := Kep.all g2 (a := ⟨w.heap.size, 1, none⟩) (v := .int .i32 db) d1
       replace gg := kep_next gg g2
       replace l1 := l1.kep g2
       have zd_w2 : w.heap.size < w2.heap.size := World.block_lt_of_cell? _ _ d0))
  go_ret
  exact ⟨rfl, gg⟩
set_option maxRecDepth 100000 in
set_option maxHeartbeats 8000000 in
theorem yvl_ok (O : YOps) (AW : Hid YAwake) (da db : Int) (hda : -2147483648 ≤ da ∧ da < 2147483648) (hdb : -2147483648 ≤ db ∧ db < 2147483648) (L : List Bd) (v : Value) (w : World) (hq : Lst w v L) (S : List Sh) (sv : Value) (hs : Sq shv 2 w sv S) (HF : Hid (∀ x ∈ L, Fits x)) (hvw : viwB L = true) : Calls Try.prog 5 #[v, sv, .agg #[.int .i32 da, .int .i32 db]] w fun e w' => e = .returned (.bool true) ∧ Kep w.heap.size w w' := by
  obtain ⟨base, cap, rfl⟩ := hq.shape
  have HQ := Lib.hid hq
  have HC := Lib.hid hs
  clear hq hs
  have VW : Hid (∀ v w, Lst w v L → Calls Try.prog 8 #[v] w fun e w' => ∃ v', e = .returned (.tuple #[v', .bool true]) ∧ Lst w' v' (sortL L) ∧ Kep w.heap.size w w') := Lib.hid (fun v w h => (rvw L v w h).mono fun e w' ⟨v', h1, h2, h3⟩ => ⟨v', by rw [h1]; rw [hvw], by have := h2.1; rw [if_pos (vw_of hvw HF.out).1] at this; exact this, h3⟩)
  have HVW := Lib.hid (vw_of hvw HF.out).2.2
  obtain ⟨A, hA⟩ : ∃ A, A = sortL L := ⟨_, rfl⟩
  rw [← hA] at VW HVW
  clear hA
  have hal := HVW.out.len
  have HOK := Lib.hid HVW.out.ok
  have HTI := Lib.hid (fitL_in S A.length)
  have hTL := fitL_len S A.length
  have FT := Lib.hid (fun v w h => lfit S A.length (by omega) v w h)
  generalize fitL S A.length = T at *
  have FW := Lib.hid (fun v w h => lfwd T (by omega) v w h)
  have MV := Lib.hid (fun v w h => lmvd A (by omega) HOK hda hdb v w h)
  have PM := Lib.hid (fun v s w h k => O.mvq v A s T w h k (by omega) hTL HOK.out HTI.out)
  have PN := Lib.hid (fun v s w h k => O.mvq v (mvdL da db A) s T w h k (by rw [mvdL_len]; omega) (by rw [mvdL_len]; exact hTL) (mvdL_ok HOK.out) HTI.out)
  have MM := Lib.hid (fun v w h => lmvd (mtL A T) (by rw [mtL_len hTL]; omega) (Lib.hid (mtL_ok HOK.out)) hda hdb v w h)
  have SS := Lib.hid (fun va vb w h1 h2 => same_any va vb (mtL (mvdL da db A) T) w h1 h2 (by rw [mtL_len (by rw [mvdL_len]; exact hTL), mvdL_len]; omega))
  have MQ := Lib.hid (fun h1 h2 h3 => mvd_move (a := da) (b := db) hTL h1 h2 h3)
  obtain ⟨zg, hzg⟩ : ∃ z, z = A.all (mvdO da db) := ⟨_, rfl⟩
  obtain ⟨za, hza⟩ : ∃ z, z = (mtA A T).any id := ⟨_, rfl⟩
  obtain ⟨zb, hzb⟩ : ∃ z, z = (mtA (mvdL da db A) T).any id := ⟨_, rfl⟩
  rw [← hzg] at MV MQ
  rw [← hza] at PM MQ
  rw [← hzb] at PN MQ
  clear hzg hza hzb hTL
  generalize hna : A.length = na at *
  have HNA := Lib.hid hna
  clear hna
  go_enter Try.func5, Try.ntmps5
  go_upto_region 8 with (first
    | ((with_reducible refine (VW.out _ _ (HQ.out.kep (kep_more (Kep.refl _ _) _))).mono ?_); rintro e w1 ⟨v1, rfl, l1, g1⟩
       have d0 := Kep.all g1 (a := ⟨w.heap.size, 0, none⟩) (v := .int .i32 da) (by (repeat (first | rw [World.cell?_drew] | rw [World.cell?_alloc_past _ _ _ (by first | (simp; done) | (simp; omega))])); rw [World.cell?_alloc_at _ _ _ _ (by simp)]; rfl)
       have d1 := Kep.all g1 (a := ⟨w.heap.size, 1, none⟩) (v := .int .i32 db) (by (repeat (first | rw [World.cell?_drew] | rw [World.cell?_alloc_past _ _ _ (by first | (simp; done) | (simp; omega))])); rw [World.cell?_alloc_at _ _ _ _ (by simp)]; rfl)
       have gg := kep_next (kep_more (Kep.refl _ _) _) g1
       obtain ⟨bl, cl, rfl⟩ := l1.shape
       rw [HNA.out] at l1 ⊢
       have zd_w1 : w.heap.size < w1.heap.size := World.block_lt_of_cell? _ _ d0)
    | ((with_reducible refine (AW.out _).mono ?_); rintro e w2 ⟨rfl, g2⟩
       replace d0 := Kep.all g2 (a := ⟨w.heap.size, 0, none⟩) (v := .int .i32 da) d0
       replace d1 := Kep.all g2 (a := ⟨w.heap.size, 1, none⟩) (v := .int .i32 db) d1
       replace gg := kep_next gg g2
       replace l1 := l1.kep g2
       have zd_w2 : w.heap.size < w2.heap.size := World.block_lt_of_cell? _ _ d0)
    | ((with_reducible refine (FT.out _ _ (HC.out.kep gg)).mono ?_); rintro e w3 ⟨v3, rfl, s3, g3⟩; replace gg := kep_next gg g3; replace d0 := g3.all d0; replace d1 := g3.all d1; replace l1 := l1.kep g3)
    | ((with_reducible refine (MV.out _ _ l1).mono ?_); rintro e w4 ⟨v4, rfl, l4, g4⟩; replace gg := kep_next gg g4; replace d0 := g4.all d0; replace d1 := g4.all d1; replace l1 := l1.kep g4; replace s3 := s3.kep g4)
    | ((with_reducible refine (FW.out _ _ s3).mono ?_); rintro e w6 ⟨v6, rfl, s6, g6⟩; replace gg := kep_next gg g6; replace d0 := g6.all d0; replace d1 := g6.all d1; replace l1 := l1.kep g6; replace l4 := l4.kep g6; replace s3 := s3.kep g6; first | (replace l7 := l7.kep g6) | skip)
    | ((with_reducible refine (PM.out _ _ _ l1 s6).mono ?_); rintro e w7 ⟨v7, rfl, l7, g7⟩; replace gg := kep_next gg g7; replace d0 := g7.all d0; replace d1 := g7.all d1; replace l1 := l1.kep g7; replace l4 := l4.kep g7; replace s3 := s3.kep g7)
    | ((with_reducible refine (PN.out _ _ _ l4 s6).mono ?_); rintro e w8 ⟨v8, rfl, l8, g8⟩; replace gg := kep_next gg g8; replace d0 := g8.all d0; replace d1 := g8.all d1; replace l1 := l1.kep g8; replace l7 := l7.kep g8))
  cases zg with
  | false =>
    go_wp2_with fail
    go_ret
    exact ⟨rfl, gg⟩
  | true =>
    cases za with
    | true =>
      go_wp2_with fail
      go_ret
      exact ⟨rfl, gg⟩
    | false =>
      cases zb with
      | true =>
        go_wp2_with fail
        go_ret
        exact ⟨rfl, gg⟩
      | false =>
        rw [MQ.out rfl rfl rfl] at MM
        go_wp2_with (first
          | ((with_reducible refine (MM.out _ _ l7).mono ?_); rintro e w9 ⟨v9, rfl, l9, g9⟩; replace gg := kep_next gg g9; replace l8 := l8.kep g9)
          | ((with_reducible refine (SS.out _ _ _ l9 l8).mono ?_); rintro e w10 ⟨rfl, g10⟩; replace gg := kep_next gg g10))
        go_ret
        exact ⟨rfl, gg⟩
/-- The law IntegrateMoves. -/
theorem yvl_law (O : YOps) (AW : YAwake) (da db : Int) (hda : -2147483648 ≤ da ∧ da < 2147483648) (hdb : -2147483648 ≤ db ∧ db < 2147483648) (L : List Bd) (v : Value) (w : World) (hq : Lst w v L) (S : List Sh) (sv : Value) (hs : Sq shv 2 w sv S) (HF : ∀ x ∈ L, Fits x) : Calls Try.prog 5 #[v, sv, .agg #[.int .i32 da, .int .i32 db]] w fun e w' => e = .returned (.bool true) ∧ Kep w.heap.size w w' := by
  cases hvw : viwB L
  · exact yvl_bad (Lib.hid AW) da db L v w hq S sv hs hvw
  · exact yvl_ok O (Lib.hid AW) da db hda hdb L v w hq S sv hs (Lib.hid HF) hvw
end Go.Proofs.Ytlabeelbbkbkaaa
