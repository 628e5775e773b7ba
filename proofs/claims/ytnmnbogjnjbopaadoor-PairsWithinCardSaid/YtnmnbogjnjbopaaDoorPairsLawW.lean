/-
  Package pairs: the law PairsWithin.
-/
import Derived.Test.YtnmnbogjnjbopaaDoorPairsLow
import Derived.Deep.DeepCutAuto
import Derived.Deep.QuietTactic
import Derived.BigQuiet
namespace Go.Proofs.YtnmnbogjnjbopaaDoor
open Go.RowKit Go.Lib

/-- A body that is the one, or a pair with it. -/
def wiT (C : List (Int × Int)) (x y : Bd) : Bool := decide (y.k = x.k) || C.contains (min x.k y.k, max x.k y.k)
theorem cont_take {C : List (Int × Int)} {l : Nat} {ta tb mn mx : Int} (h : C[l]? = some (ta, tb)) : (C.take (l + 1)).contains (mn, mx) = ((C.take l).contains (mn, mx) || decide (ta = mn ∧ tb = mx)) := by
  rw [List.take_add_one, h]
  rw [Bool.eq_iff_iff, Bool.or_eq_true, List.contains_iff_mem, List.contains_iff_mem, decide_eq_true_iff]
  simp only [Option.toList, List.mem_append, List.mem_singleton]
  constructor
  · rintro (h | h)
    · exact .inl h
    · injection h with h1 h2; exact .inr ⟨h1.symm, h2.symm⟩
  · rintro (h | ⟨h1, h2⟩)
    · exact .inl h
    · exact .inr (by rw [h1, h2])
theorem filt_at {A : List Bd} {k : Nat} {y : Bd} {t : Bd → Bool} (h : A[k]? = some y) : ((A.take (k + 1)).filter t).map (·.k) = ((A.take k).filter t).map (·.k) ++ (if t y = true then [y.k] else []) := by
  rw [List.take_add_one, h]
  by_cases c : t y = true <;> simp [c]
theorem filt_len (A : List Bd) (t : Bd → Bool) : ((A.filter t).map (·.k)).length ≤ A.length := by
  rw [List.length_map]
  exact List.length_filter_le _ _
set_option maxRecDepth 100000 in
set_option maxHeartbeats 2000000 in
theorem pwl_bad (AW : Hid PAwake) (t : Int) (L : List Bd) (v : Value) (w : World) (F0 : Fac w) (hq : Lst w v L) (hvw : viwB L = false) : Calls Tryd.prog 12 #[v, .int .u8 t] w fun e w' => e = .returned (.bool true) ∧ Kep w.heap.size w w' := by
  obtain ⟨base, cap, rfl⟩ := hq.shape
  have HQ := Lib.hid hq
  clear hq
  have VW : Hid (∀ v w, Lst w v L → Calls Tryd.prog 27 #[v] w fun e w' => ∃ v', e = .returned (.tuple #[v', .bool false]) ∧ Lst w' v' (if L.length ≤ 40 then sortL L else []) ∧ Kep w.heap.size w w') := Lib.hid (fun v w h => (rvw L v w h).mono fun e w' ⟨v', h1, h2, h3⟩ => ⟨v', by rw [h1]; rw [hvw], h2.1, h3⟩)
  go_enter Tryd.func12, Tryd.ntmps12
  go_wp2_with (first
    | ((with_reducible refine (VW.out _ _ (HQ.out.kep (Kep.refl _ _))).mono ?_); rintro e w1 ⟨v1, rfl, l1, g1⟩
       have gg := kep_next (Kep.refl _ _) g1)
    | ((with_reducible refine (AW.out _ (F0.kep (by (repeat (first | with_reducible assumption | refine kep_more ?_ _ | refine kep_drew ?_ | exact Kep.refl _ _))))).mono ?_); rintro e w2 ⟨rfl, g2⟩
       replace gg := kep_next gg g2
       replace l1 := l1.kep g2))
  go_ret
  exact ⟨rfl, gg⟩
set_option maxRecDepth 100000 in
set_option maxHeartbeats 2000000 in
theorem pwl_nil (AW : Hid PAwake) (t : Int) (L : List Bd) (v : Value) (w : World) (F0 : Fac w) (hq : Lst w v L) (HF : Hid (∀ x ∈ L, Fits x)) (hvw : viwB L = true) (hA : sortL L = []) : Calls Tryd.prog 12 #[v, .int .u8 t] w fun e w' => e = .returned (.bool true) ∧ Kep w.heap.size w w' := by
  obtain ⟨base, cap, rfl⟩ := hq.shape
  have HQ := Lib.hid hq
  clear hq
  have VW : Hid (∀ v w, Lst w v L → Calls Tryd.prog 27 #[v] w fun e w' => ∃ v', e = .returned (.tuple #[v', .bool true]) ∧ Lst w' v' [] ∧ Kep w.heap.size w w') := Lib.hid (fun v w h => (rvw L v w h).mono fun e w' ⟨v', h1, h2, h3⟩ => ⟨v', by rw [h1]; rw [hvw], by have := h2.1; rw [if_pos (vw_of hvw HF.out).1, hA] at this; exact this, h3⟩)
  go_enter Tryd.func12, Tryd.ntmps12
  go_wp2_with (first
    | ((with_reducible refine (VW.out _ _ (HQ.out.kep (Kep.refl _ _))).mono ?_); rintro e w1 ⟨v1, rfl, l1, g1⟩
       have gg := kep_next (Kep.refl _ _) g1
       obtain ⟨b1, c1, rfl⟩ := l1.shape; have z0 : (([] : List Bd).length : Int) = 0 := rfl)
    | ((with_reducible refine (AW.out _ (F0.kep (by (repeat (first | with_reducible assumption | refine kep_more ?_ _ | refine kep_drew ?_ | exact Kep.refl _ _))))).mono ?_); rintro e w2 ⟨rfl, g2⟩
       replace gg := kep_next gg g2
       replace l1 := l1.kep g2))
  go_ret
  exact ⟨rfl, gg⟩
set_option maxRecDepth 100000 in
set_option maxHeartbeats 8000000 in
theorem pwl_ok (O : POps) (AW : Hid PAwake) (t : Int) (ht : 0 ≤ t ∧ t < 256) (L : List Bd) (v : Value) (w : World) (F0 : Fac w) (hq : Lst w v L) (HF : Hid (∀ x ∈ L, Fits x)) (hvw : viwB L = true) (j : Nat) (hj : j < (sortL L).length) (htj : t % ((sortL L).length : Int) = (j : Int)) : Calls Tryd.prog 12 #[v, .int .u8 t] w fun e w' => e = .returned (.bool true) ∧ Kep w.heap.size w w' := by
  obtain ⟨base, cap, rfl⟩ := hq.shape
  have HQ := Lib.hid hq
  clear hq
  have VW : Hid (∀ v w, Lst w v L → Calls Tryd.prog 27 #[v] w fun e w' => ∃ v', e = .returned (.tuple #[v', .bool true]) ∧ Lst w' v' (sortL L) ∧ Kep w.heap.size w w') := Lib.hid (fun v w h => (rvw L v w h).mono fun e w' ⟨v', h1, h2, h3⟩ => ⟨v', by rw [h1]; rw [hvw], by have := h2.1; rw [if_pos (vw_of hvw HF.out).1] at this; exact this, h3⟩)
  have HVW := Lib.hid (vw_of hvw HF.out).2.2
  obtain ⟨A, hA⟩ : ∃ A, A = sortL L := ⟨_, rfl⟩
  rw [← hA] at VW HVW
  rw [← hA] at hj htj
  have hx : A[j]? = some (A[j]'hj) := List.getElem?_eq_getElem _
  generalize A[j]'hj = x at hx
  have HJ := Lib.hid hx
  have hxc := HVW.out.ok x (List.mem_of_getElem? hx)
  obtain ⟨qa, qb, qc, qd, RX0, hex⟩ := rok hxc
  obtain ⟨xk, hxk⟩ : ∃ xk, xk = x.k := ⟨_, rfl⟩
  have HXK := Lib.hid hxk
  have RX : Hid (∀ w, Calls Tryd.prog 36 #[.agg #[.int .u32 xk, .int .i32 x.r, .int .i32 x.ax, .int .i32 x.ay, .int .i32 x.m, .int .i32 x.o, .int .i32 x.px, .int .i32 x.py, .int .i32 x.vx, .int .i32 x.vy]] w fun e w' => e = .returned (.agg #[.int .i32 qa, .int .i32 qb, .int .i32 qc, .int .i32 qd]) ∧ Kep w.heap.size w w') := Lib.hid (fun w => by rw [hxk]; exact RX0.out w)
  obtain ⟨hx1, hx2, hx3, hx4⟩ := ext_B hxc
  have HI0 : Hid (InI qa) := Lib.hid (by have := hex.a; unfold InI; omega)
  have HI1 : Hid (InI qb) := Lib.hid (by have := hex.b; unfold InI; omega)
  have HI2 : Hid (InI qc) := Lib.hid (by have := hex.c; unfold InI; omega)
  have HI3 : Hid (InI qd) := Lib.hid (by have := hex.d; unfold InI; omega)
  have HWS : Hid (withL A qa qb qc qd = (A.filter (wiT (pairsL A) x)).map (·.k)) := Lib.hid (by rw [hex.a, hex.b, hex.c, hex.d]; exact within_self HVW.out.asc (List.mem_of_getElem? hx) hxc)
  have hlen := HVW.out.len
  have hpm := pairs_max HVW.out.len
  clear hx hxc hx1 hx2 hx3 hx4 hex RX0 hxk
  generalize hna : A.length = na at *
  have HN := Lib.hid hna
  clear hna
  have t1 : IntKind.i64.wrap t = t := by rw [IntKind.wrap_i64]; omega
  have t2 : wrap64 t = t := by unfold wrap64; omega
  have t3 : ((na : Int) == 0) = false := by simp; omega
  have t4 : Int.tmod t (na : Int) = (j : Int) := by rw [Int.tmod_eq_emod_of_nonneg ht.1]; exact htj
  have t5 : ((0 : Int) ≤ (j : Int)) := by omega
  go_enter Tryd.func12, Tryd.ntmps12
  go_wp2_with (first
    | ((with_reducible refine (VW.out _ _ (HQ.out.kep (Kep.refl _ _))).mono ?_); rintro e w1 ⟨v1, rfl, l1, g1⟩
       have gg := kep_next (Kep.refl _ _) g1
       obtain ⟨b1, c1, hv1⟩ := l1.shape
       rw [HN.out] at hv1
       subst hv1
       obtain ⟨gl, off, rfl, qx⟩ := l1.at_ HJ.out
       have s0 : w1.cell? ⟨gl, off + j * 10, none⟩ = some (.int .u32 xk) := by rw [HXK.out]; exact qx 0 (by decide)
       have s1 : w1.cell? ⟨gl, off + j * 10 + 1, none⟩ = some (.int .i32 x.r) := qx 1 (by decide)
       have s2 : w1.cell? ⟨gl, off + j * 10 + 2, none⟩ = some (.int .i32 x.ax) := qx 2 (by decide)
       have s3 : w1.cell? ⟨gl, off + j * 10 + 3, none⟩ = some (.int .i32 x.ay) := qx 3 (by decide)
       have s4 : w1.cell? ⟨gl, off + j * 10 + 4, none⟩ = some (.int .i32 x.m) := qx 4 (by decide)
       have s5 : w1.cell? ⟨gl, off + j * 10 + 5, none⟩ = some (.int .i32 x.o) := qx 5 (by decide)
       have s6 : w1.cell? ⟨gl, off + j * 10 + 6, none⟩ = some (.int .i32 x.px) := qx 6 (by decide)
       have s7 : w1.cell? ⟨gl, off + j * 10 + 7, none⟩ = some (.int .i32 x.py) := qx 7 (by decide)
       have s8 : w1.cell? ⟨gl, off + j * 10 + 8, none⟩ = some (.int .i32 x.vx) := qx 8 (by decide)
       have s9 : w1.cell? ⟨gl, off + j * 10 + 9, none⟩ = some (.int .i32 x.vy) := qx 9 (by decide)
       clear qx)
    | ((with_reducible refine (AW.out _ (F0.kep (by (repeat (first | with_reducible assumption | refine kep_more ?_ _ | refine kep_drew ?_ | exact Kep.refl _ _))))).mono ?_); rintro e w2 ⟨rfl, g2⟩
       replace s0 := Kep.all g2 (a := ⟨gl, off + j * 10, none⟩) (v := .int .u32 xk) s0
       replace s1 := Kep.all g2 (a := ⟨gl, off + j * 10 + 1, none⟩) (v := .int .i32 x.r) s1
       replace s2 := Kep.all g2 (a := ⟨gl, off + j * 10 + 2, none⟩) (v := .int .i32 x.ax) s2
       replace s3 := Kep.all g2 (a := ⟨gl, off + j * 10 + 3, none⟩) (v := .int .i32 x.ay) s3
       replace s4 := Kep.all g2 (a := ⟨gl, off + j * 10 + 4, none⟩) (v := .int .i32 x.m) s4
       replace s5 := Kep.all g2 (a := ⟨gl, off + j * 10 + 5, none⟩) (v := .int .i32 x.o) s5
       replace s6 := Kep.all g2 (a := ⟨gl, off + j * 10 + 6, none⟩) (v := .int .i32 x.px) s6
       replace s7 := Kep.all g2 (a := ⟨gl, off + j * 10 + 7, none⟩) (v := .int .i32 x.py) s7
       replace s8 := Kep.all g2 (a := ⟨gl, off + j * 10 + 8, none⟩) (v := .int .i32 x.vx) s8
       replace s9 := Kep.all g2 (a := ⟨gl, off + j * 10 + 9, none⟩) (v := .int .i32 x.vy) s9
       replace gg := kep_next gg g2
       replace l1 := l1.kep g2
       have zs_w2 : gl < w2.heap.size := World.block_lt_of_cell? _ _ s0)
    | ((with_reducible refine (RX.out _).mono ?_); rintro e w3 ⟨rfl, g3⟩
       have p0 := Kep.all g3 (a := ⟨w2.heap.size, 0, none⟩) (v := .int .u32 xk) (by (repeat (first | rw [World.cell?_drew] | rw [World.cell?_alloc_past _ _ _ (by first | (simp; done) | (simp; omega))])); rw [World.cell?_alloc_at _ _ _ _ (by simp)]; rfl)
       have p1 := Kep.all g3 (a := ⟨w2.heap.size, 1, none⟩) (v := .int .i32 x.r) (by (repeat (first | rw [World.cell?_drew] | rw [World.cell?_alloc_past _ _ _ (by first | (simp; done) | (simp; omega))])); rw [World.cell?_alloc_at _ _ _ _ (by simp)]; rfl)
       have p2 := Kep.all g3 (a := ⟨w2.heap.size, 2, none⟩) (v := .int .i32 x.ax) (by (repeat (first | rw [World.cell?_drew] | rw [World.cell?_alloc_past _ _ _ (by first | (simp; done) | (simp; omega))])); rw [World.cell?_alloc_at _ _ _ _ (by simp)]; rfl)
       have p3 := Kep.all g3 (a := ⟨w2.heap.size, 3, none⟩) (v := .int .i32 x.ay) (by (repeat (first | rw [World.cell?_drew] | rw [World.cell?_alloc_past _ _ _ (by first | (simp; done) | (simp; omega))])); rw [World.cell?_alloc_at _ _ _ _ (by simp)]; rfl)
       have p4 := Kep.all g3 (a := ⟨w2.heap.size, 4, none⟩) (v := .int .i32 x.m) (by (repeat (first | rw [World.cell?_drew] | rw [World.cell?_alloc_past _ _ _ (by first | (simp; done) | (simp; omega))])); rw [World.cell?_alloc_at _ _ _ _ (by simp)]; rfl)
       have p5 := Kep.all g3 (a := ⟨w2.heap.size, 5, none⟩) (v := .int .i32 x.o) (by (repeat (first | rw [World.cell?_drew] | rw [World.cell?_alloc_past _ _ _ (by first | (simp; done) | (simp; omega))])); rw [World.cell?_alloc_at _ _ _ _ (by simp)]; rfl)
       have p6 := Kep.all g3 (a := ⟨w2.heap.size, 6, none⟩) (v := .int .i32 x.px) (by (repeat (first | rw [World.cell?_drew] | rw [World.cell?_alloc_past _ _ _ (by first | (simp; done) | (simp; omega))])); rw [World.cell?_alloc_at _ _ _ _ (by simp)]; rfl)
       have p7 := Kep.all g3 (a := ⟨w2.heap.size, 7, none⟩) (v := .int .i32 x.py) (by (repeat (first | rw [World.cell?_drew] | rw [World.cell?_alloc_past _ _ _ (by first | (simp; done) | (simp; omega))])); rw [World.cell?_alloc_at _ _ _ _ (by simp)]; rfl)
       have p8 := Kep.all g3 (a := ⟨w2.heap.size, 8, none⟩) (v := .int .i32 x.vx) (by (repeat (first | rw [World.cell?_drew] | rw [World.cell?_alloc_past _ _ _ (by first | (simp; done) | (simp; omega))])); rw [World.cell?_alloc_at _ _ _ _ (by simp)]; rfl)
       have p9 := Kep.all g3 (a := ⟨w2.heap.size, 9, none⟩) (v := .int .i32 x.vy) (by (repeat (first | rw [World.cell?_drew] | rw [World.cell?_alloc_past _ _ _ (by first | (simp; done) | (simp; omega))])); rw [World.cell?_alloc_at _ _ _ _ (by simp)]; rfl)
       replace gg := kep_next (kep_more gg _) g3
       replace l1 := (l1.kep (kep_more (Kep.refl _ _) _)).kep g3
       clear s0 s1 s2 s3 s4 s5 s6 s7 s8 s9
       have zp_w3 : w2.heap.size < w3.heap.size := World.block_lt_of_cell? _ _ p0)
    | ((with_reducible refine (O.within _ A qa qb qc qd _ (F0.kep (kep_more gg _)) (l1.kep (kep_more (Kep.refl _ _) _)) HVW.out HI0.out HI1.out HI2.out HI3.out).mono ?_); rintro e w4 ⟨v4, rfl, q4, g4⟩
       replace p0 := Kep.all g4 (a := ⟨w2.heap.size, 0, none⟩) (v := .int .u32 xk) (Kep.all (kep_more (Kep.refl _ _) _) p0)
       replace p1 := Kep.all g4 (a := ⟨w2.heap.size, 1, none⟩) (v := .int .i32 x.r) (Kep.all (kep_more (Kep.refl _ _) _) p1)
       replace p2 := Kep.all g4 (a := ⟨w2.heap.size, 2, none⟩) (v := .int .i32 x.ax) (Kep.all (kep_more (Kep.refl _ _) _) p2)
       replace p3 := Kep.all g4 (a := ⟨w2.heap.size, 3, none⟩) (v := .int .i32 x.ay) (Kep.all (kep_more (Kep.refl _ _) _) p3)
       replace p4 := Kep.all g4 (a := ⟨w2.heap.size, 4, none⟩) (v := .int .i32 x.m) (Kep.all (kep_more (Kep.refl _ _) _) p4)
       replace p5 := Kep.all g4 (a := ⟨w2.heap.size, 5, none⟩) (v := .int .i32 x.o) (Kep.all (kep_more (Kep.refl _ _) _) p5)
       replace p6 := Kep.all g4 (a := ⟨w2.heap.size, 6, none⟩) (v := .int .i32 x.px) (Kep.all (kep_more (Kep.refl _ _) _) p6)
       replace p7 := Kep.all g4 (a := ⟨w2.heap.size, 7, none⟩) (v := .int .i32 x.py) (Kep.all (kep_more (Kep.refl _ _) _) p7)
       replace p8 := Kep.all g4 (a := ⟨w2.heap.size, 8, none⟩) (v := .int .i32 x.vx) (Kep.all (kep_more (Kep.refl _ _) _) p8)
       replace p9 := Kep.all g4 (a := ⟨w2.heap.size, 9, none⟩) (v := .int .i32 x.vy) (Kep.all (kep_more (Kep.refl _ _) _) p9)
       have q0 := Kep.all g4 (a := ⟨w3.heap.size, 0, none⟩) (v := .int .i32 qa) (by (repeat (first | rw [World.cell?_drew] | rw [World.cell?_alloc_past _ _ _ (by first | (simp; done) | (simp; omega))])); rw [World.cell?_alloc_at _ _ _ _ (by simp)]; rfl)
       have q1 := Kep.all g4 (a := ⟨w3.heap.size, 1, none⟩) (v := .int .i32 qb) (by (repeat (first | rw [World.cell?_drew] | rw [World.cell?_alloc_past _ _ _ (by first | (simp; done) | (simp; omega))])); rw [World.cell?_alloc_at _ _ _ _ (by simp)]; rfl)
       have q2 := Kep.all g4 (a := ⟨w3.heap.size, 2, none⟩) (v := .int .i32 qc) (by (repeat (first | rw [World.cell?_drew] | rw [World.cell?_alloc_past _ _ _ (by first | (simp; done) | (simp; omega))])); rw [World.cell?_alloc_at _ _ _ _ (by simp)]; rfl)
       have q3 := Kep.all g4 (a := ⟨w3.heap.size, 3, none⟩) (v := .int .i32 qd) (by (repeat (first | rw [World.cell?_drew] | rw [World.cell?_alloc_past _ _ _ (by first | (simp; done) | (simp; omega))])); rw [World.cell?_alloc_at _ _ _ _ (by simp)]; rfl)
       replace gg := kep_next (kep_more gg _) g4
       replace l1 := (l1.kep (kep_more (Kep.refl _ _) _)).kep g4
       have zp_w4 : w2.heap.size < w4.heap.size := World.block_lt_of_cell? _ _ p0
       have zq_w4 : w3.heap.size < w4.heap.size := World.block_lt_of_cell? _ _ q0)
    | ((with_reducible refine (O.find _ A _ (F0.kep gg) l1 HVW.out).mono ?_); rintro e w5 ⟨v5, n5, rfl, ⟨q5, _⟩, g5⟩
       replace p0 := Kep.all g5 (a := ⟨w2.heap.size, 0, none⟩) (v := .int .u32 xk) p0
       replace p1 := Kep.all g5 (a := ⟨w2.heap.size, 1, none⟩) (v := .int .i32 x.r) p1
       replace p2 := Kep.all g5 (a := ⟨w2.heap.size, 2, none⟩) (v := .int .i32 x.ax) p2
       replace p3 := Kep.all g5 (a := ⟨w2.heap.size, 3, none⟩) (v := .int .i32 x.ay) p3
       replace p4 := Kep.all g5 (a := ⟨w2.heap.size, 4, none⟩) (v := .int .i32 x.m) p4
       replace p5 := Kep.all g5 (a := ⟨w2.heap.size, 5, none⟩) (v := .int .i32 x.o) p5
       replace p6 := Kep.all g5 (a := ⟨w2.heap.size, 6, none⟩) (v := .int .i32 x.px) p6
       replace p7 := Kep.all g5 (a := ⟨w2.heap.size, 7, none⟩) (v := .int .i32 x.py) p7
       replace p8 := Kep.all g5 (a := ⟨w2.heap.size, 8, none⟩) (v := .int .i32 x.vx) p8
       replace p9 := Kep.all g5 (a := ⟨w2.heap.size, 9, none⟩) (v := .int .i32 x.vy) p9
       replace gg := kep_next gg g5
       replace l1 := l1.kep g5
       replace q4 := q4.kep g5
       have zp_w5 : w2.heap.size < w5.heap.size := World.block_lt_of_cell? _ _ p0))
  clear t1 t2 t3 t4 htj ht
  have G0 := Lib.hid gg
  have HL := Lib.hid l1
  have HC := Lib.hid (fun (k : Nat) (x : Bd) (hx : A[k]? = some x) => l1.at_ hx)
  have HP0 := Lib.hid p0
  have HQ4 := Lib.hid q4
  obtain ⟨C, hC⟩ : ∃ C, C = pairsL A := ⟨_, rfl⟩
  rw [← hC] at q5 HWS hpm
  obtain ⟨b5, c5, rfl, h5⟩ := q5
  have H5 := Lib.hid h5
  clear gg l1 p0 p1 p2 p3 p4 p5 p6 p7 p8 p9 q4 h5 hC
  generalize hnc : C.length = nc at *
  have HNC := Lib.hid hnc
  clear hnc
  go_wp2_with fail
  go_loopw [12, 13, 14, 15] (fun out i _ _ wr => ∃ k : Nat, k ≤ na ∧ i = .int .i64 k ∧ Hid (wr.ownsRow w5.heap.size 42 1 out (((A.take k).filter (wiT C x)).map (·.k)).length ((((A.take k).filter (wiT C x)).map (·.k)).flatMap kv) ∧ Kep w5.heap.size w5 wr)) (fun _ i _ _ _ => na - (RowKit.intOf i).toNat)
  case atStart => exact ⟨0, by omega, rfl, Lib.hid ⟨World.ownsRow_nil _ _ _ _, Kep.refl _ _⟩⟩
  case round =>
    obtain ⟨k, hk, rfl, HP⟩ := hrel
    have gg := HP.out.2
    by_cases hlt : k < na
    · have hb : A[k]? = some (A[k]'(by rw [HN.out]; exact hlt)) := List.getElem?_eq_getElem _
      generalize A[k]'(by rw [HN.out]; exact hlt) = y at hb
      obtain ⟨_, _, e0, qy⟩ := HC.out k y hb
      injection e0 with e0
      injection e0 with e1 e2
      subst e1 e2
      obtain ⟨yk, hyk⟩ : ∃ yk, yk = y.k := ⟨_, rfl⟩
      have HT0 : Hid (w5.cell? ⟨gl, off + k * 10, none⟩ = some (.int .u32 yk)) := Lib.hid (by rw [hyk]; exact qy 0 (by decide))
      have t0 := gg.all HT0.out
      have p0 := gg.all HP0.out
      obtain ⟨z0, hz0⟩ : ∃ z0, (yk == xk) = z0 := ⟨_, rfl⟩
      obtain ⟨mn, hmn⟩ : ∃ m, min xk yk = m := ⟨_, rfl⟩
      obtain ⟨mx, hmx⟩ : ∃ m, max xk yk = m := ⟨_, rfl⟩
      have HWT : Hid (wiT C x y = (z0 || C.contains (mn, mx))) := Lib.hid (by
        unfold wiT
        rw [← hmn, ← hmx, ← hz0, hyk, HXK.out]
        congr 1)
      have HY := Lib.hid hb
      have HYK := Lib.hid hyk
      have HPL : Hid ((((A.take k).filter (wiT C x)).map (·.k)).length ≤ na) := Lib.hid (by have := filt_len (A.take k) (wiT C x); rw [List.length_take, HN.out] at this; omega)
      clear hb qy hyk
      go_wp2_with fail
      refine wp_region_noPanic ?_
      refine wp_region_held_drew (S := (fun w' => w'.cell? ⟨gl, off + k * 10, none⟩ = some (.int .u32 yk) ∧ w'.cell? ⟨w2.heap.size, 0, none⟩ = some (.int .u32 xk) ∧ Kep w5.heap.size w5 w')) (by kernel_rfl) (⟨by rw [World.cell?_drew]; exact t0, by rw [World.cell?_drew]; exact p0, kep_drew gg⟩) (fun hH => ?_)
      refine wpAnyH_take (i := 0) (oi := { dst := some 65, op := Op.move (Operand.tmp 5), type := _, pos := _, after := _, guard := none }) (v := ?_) rfl (by kernel_rfl) (by kernel_rfl) (by kernel_rfl) (fun _ _ _ h => h) (Or.inl ⟨by rfl, ?_⟩) hH ?_
      rotate_left
      · (intro w hSw; (try dsimp only at hSw); go_simp; (try with_reducible rfl))
      try simp only [Act.put, List.setIfInBounds_toArray, List.set_cons_zero, List.set_cons_succ]
      refine wpAnyH_take (i := 1) (oi := { dst := some 66, op := Op.move (Operand.tmp 13), type := _, pos := _, after := _, guard := none }) (v := ?_) rfl (by kernel_rfl) (by kernel_rfl) (by kernel_rfl) (fun _ _ _ h => h) (Or.inl ⟨by rfl, ?_⟩) hH ?_
      rotate_left
      · (intro w hSw; (try dsimp only at hSw); go_simp; (try with_reducible rfl))
      try simp only [Act.put, List.setIfInBounds_toArray, List.set_cons_zero, List.set_cons_succ]
      refine wpAnyH_take (i := 2) (oi := { dst := some 67, op := Op.indexAddr 55 (Operand.tmp 65) (Operand.tmp 66), type := _, pos := _, after := _, guard := none }) (v := ?_) rfl (by kernel_rfl) (by kernel_rfl) (by kernel_rfl) (fun _ _ _ h => h) (Or.inl ⟨by rfl, ?_⟩) hH ?_
      rotate_left
      · (intro w hSw; (try dsimp only at hSw); go_simp; (try with_reducible rfl))
      try simp only [Act.put, List.setIfInBounds_toArray, List.set_cons_zero, List.set_cons_succ]
      refine wpAnyH_take (i := 3) (oi := { dst := some 68, op := Op.fieldAddr 69 (Operand.tmp 67) 0, type := _, pos := _, after := _, guard := none }) (v := ?_) rfl (by kernel_rfl) (by kernel_rfl) (by kernel_rfl) (fun _ _ _ h => h) (Or.inl ⟨by rfl, ?_⟩) hH ?_
      rotate_left
      · (intro w hSw; (try dsimp only at hSw); go_simp; (try with_reducible rfl))
      try simp only [Act.put, List.setIfInBounds_toArray, List.set_cons_zero, List.set_cons_succ]
      refine wpAnyH_take (i := 4) (oi := { dst := some 69, op := Op.load 42 (Operand.tmp 68), type := _, pos := _, after := _, guard := none }) (v := ?_) rfl (by kernel_rfl) (by kernel_rfl) (by kernel_rfl) (fun _ _ _ h => h) (Or.inl ⟨by rfl, ?_⟩) hH ?_
      rotate_left
      · (intro w hSw; (try dsimp only at hSw); go_simp; (try with_reducible rfl))
      try simp only [Act.put, List.setIfInBounds_toArray, List.set_cons_zero, List.set_cons_succ]
      refine wpAnyH_take (i := 5) (oi := { dst := some 70, op := Op.fieldAddr 69 (Operand.tmp 7) 0, type := _, pos := _, after := _, guard := none }) (v := ?_) rfl (by kernel_rfl) (by kernel_rfl) (by kernel_rfl) (fun _ _ _ h => h) (Or.inl ⟨by rfl, ?_⟩) hH ?_
      rotate_left
      · (intro w hSw; (try dsimp only at hSw); go_simp; (try with_reducible rfl))
      try simp only [Act.put, List.setIfInBounds_toArray, List.set_cons_zero, List.set_cons_succ]
      refine wpAnyH_take (i := 6) (oi := { dst := some 71, op := Op.load 42 (Operand.tmp 70), type := _, pos := _, after := _, guard := none }) (v := ?_) rfl (by kernel_rfl) (by kernel_rfl) (by kernel_rfl) (fun _ _ _ h => h) (Or.inl ⟨by rfl, ?_⟩) hH ?_
      rotate_left
      · (intro w hSw; (try dsimp only at hSw); go_simp; (try with_reducible rfl))
      try simp only [Act.put, List.setIfInBounds_toArray, List.set_cons_zero, List.set_cons_succ]
      refine wpAnyH_take (i := 7) (oi := { dst := some 72, op := Op.binOp BinOp.eql 42 (Operand.tmp 69) (Operand.tmp 71) 42, type := _, pos := _, after := _, guard := none }) (v := ?_) rfl (by kernel_rfl) (by kernel_rfl) (by kernel_rfl) (fun _ _ _ h => h) (Or.inl ⟨by rfl, ?_⟩) hH ?_
      rotate_left
      · (intro w hSw; (try dsimp only at hSw); go_simp; (try with_reducible rfl))
      try simp only [Act.put, List.setIfInBounds_toArray, List.set_cons_zero, List.set_cons_succ]
      refine wpAnyH_take (i := 8) (oi := { dst := some 14, op := Op.assign (Operand.tmp 72), type := _, pos := _, after := _, guard := none }) (v := ?_) rfl (by kernel_rfl) (by kernel_rfl) (by kernel_rfl) (fun _ _ _ h => h) (Or.inl ⟨by rfl, ?_⟩) hH ?_
      rotate_left
      · (intro w hSw; (try dsimp only at hSw); go_simp; (try with_reducible rfl))
      try simp only [Act.put, List.setIfInBounds_toArray, List.set_cons_zero, List.set_cons_succ]
      refine wpAnyH_done (by kernel_rfl) ?_ _
      refine NoPanic.normal ?_
      clear t0 p0 gg
      obtain ⟨t0, p0, gg⟩ := hH
      clear hz0
      go_wp2_with fail
      have HO2 := Lib.hid (World.ownsRow.drew HP.out.1)
      have HKO := Lib.hid gg
      obtain ⟨wo, hwo⟩ : ∃ x, x = wr.drew := ⟨_, rfl⟩
      rw [← hwo] at HO2 HKO ⊢
      clear hwo HP t0 p0 gg
      go_loopw [14, 15] (fun s l wr => ∃ (l' : Nat) (z : Bool), l' ≤ nc ∧ l = .int .i64 l' ∧ s = .bool z ∧ Hid ((z0 || (C.take l').contains (mn, mx)) = z) ∧ Hid (Kep wo.heap.size wo wr)) (fun _ l _ => nc - (RowKit.intOf l).toNat)
      case atStart => exact ⟨0, z0, by omega, rfl, rfl, Lib.hid (by simp), Lib.hid (Kep.refl _ _)⟩
      case round =>
        obtain ⟨l, z, hl, rfl, rfl, HZ, HK⟩ := hrel
        have gg := kep_next HKO.out HK.out
        by_cases hlt2 : l < nc
        · have hbp : C[l]? = some (C[l]'(by rw [HNC.out]; exact hlt2)) := List.getElem?_eq_getElem _
          generalize C[l]'(by rw [HNC.out]; exact hlt2) = p at hbp
          obtain ⟨gp, op, rfl, qp⟩ := H5.out l p hbp
          obtain ⟨ta, tb⟩ := p
          have r0 : wr.cell? ⟨gp, op + l * 2, none⟩ = some (.int .u32 ta) := gg.all (qp 0 _ rfl)
          have r1 : wr.cell? ⟨gp, op + l * 2 + 1, none⟩ = some (.int .u32 tb) := gg.all (qp 1 _ rfl)
          have t0 := gg.all HT0.out
          have p0 := gg.all HP0.out
          have HB := Lib.hid hbp
          obtain ⟨z2, hz2⟩ : ∃ z2, decide (ta = mn ∧ tb = mx) = z2 := ⟨_, rfl⟩
          have vv := fun w => pair_cmp ta tb mn mx z2 hz2 w
          have HZ2 : Hid ((z0 || (C.take (l + 1)).contains (mn, mx)) = (z || z2)) := Lib.hid (by rw [cont_take hbp, hz2, ← Bool.or_assoc, HZ.out])
          have GO := Lib.hid gg
          replace gg := HK.out
          clear hbp qp hz2
          cases z
          · go_wp2_with fail
            refine wp_region_noPanic ?_
            refine wp_region_held_drew (S := (fun w' => w'.cell? ⟨gl, off + k * 10, none⟩ = some (.int .u32 yk) ∧ w'.cell? ⟨w2.heap.size, 0, none⟩ = some (.int .u32 xk) ∧ w'.cell? ⟨gp, op + l * 2, none⟩ = some (.int .u32 ta) ∧ w'.cell? ⟨gp, op + l * 2 + 1, none⟩ = some (.int .u32 tb) ∧ Kep wo.heap.size wo w')) (by kernel_rfl) (⟨by rw [World.cell?_drew]; exact t0, by rw [World.cell?_drew]; exact p0, by rw [World.cell?_drew]; exact r0, by rw [World.cell?_drew]; exact r1, kep_drew gg⟩) (fun hH => ?_)
            refine wpAnyH_take (i := 0) (oi := { dst := some 79, op := Op.move (Operand.tmp 14), type := _, pos := _, after := _, guard := none }) (v := ?_) rfl (by kernel_rfl) (by kernel_rfl) (by kernel_rfl) (fun _ _ _ h => h) (Or.inl ⟨by rfl, ?_⟩) hH ?_
            rotate_left
            · (intro w hSw; (try dsimp only at hSw); go_simp; (try with_reducible rfl))
            try simp only [Act.put, List.setIfInBounds_toArray, List.set_cons_zero, List.set_cons_succ]
            refine wpAnyH_take (i := 1) (oi := { dst := some 80, op := Op.move (Operand.tmp 79), type := _, pos := _, after := _, guard := none }) (v := ?_) rfl (by kernel_rfl) (by kernel_rfl) (by kernel_rfl) (fun _ _ _ h => h) (Or.inl ⟨by rfl, ?_⟩) hH ?_
            rotate_left
            · (intro w hSw; (try dsimp only at hSw); go_simp; (try with_reducible rfl))
            try simp only [Act.put, List.setIfInBounds_toArray, List.set_cons_zero, List.set_cons_succ]
            refine wpAnyH_take (i := 2) (oi := { dst := some 81, op := Op.move (Operand.tmp 10), type := _, pos := _, after := _, guard := some (1, false) }) (v := ?_) rfl (by kernel_rfl) (by kernel_rfl) (by kernel_rfl) (fun _ _ _ h => h) (Or.inl ⟨by rfl, ?_⟩) hH ?_
            rotate_left
            · (intro w hSw; (try dsimp only at hSw); go_simp; (try with_reducible rfl))
            try simp only [Act.put, List.setIfInBounds_toArray, List.set_cons_zero, List.set_cons_succ]
            refine wpAnyH_take (i := 3) (oi := { dst := some 82, op := Op.move (Operand.tmp 15), type := _, pos := _, after := _, guard := some (1, false) }) (v := ?_) rfl (by kernel_rfl) (by kernel_rfl) (by kernel_rfl) (fun _ _ _ h => h) (Or.inl ⟨by rfl, ?_⟩) hH ?_
            rotate_left
            · (intro w hSw; (try dsimp only at hSw); go_simp; (try with_reducible rfl))
            try simp only [Act.put, List.setIfInBounds_toArray, List.set_cons_zero, List.set_cons_succ]
            refine wpAnyH_take (i := 4) (oi := { dst := some 83, op := Op.indexAddr 35 (Operand.tmp 81) (Operand.tmp 82), type := _, pos := _, after := _, guard := some (1, false) }) (v := ?_) rfl (by kernel_rfl) (by kernel_rfl) (by kernel_rfl) (fun _ _ _ h => h) (Or.inl ⟨by rfl, ?_⟩) hH ?_
            rotate_left
            · (intro w hSw; (try dsimp only at hSw); go_simp; (try with_reducible rfl))
            try simp only [Act.put, List.setIfInBounds_toArray, List.set_cons_zero, List.set_cons_succ]
            refine wpAnyH_take (i := 5) (oi := { dst := some 84, op := Op.load 44 (Operand.tmp 83), type := _, pos := _, after := _, guard := some (1, false) }) (v := ?_) rfl (by kernel_rfl) (by kernel_rfl) (by kernel_rfl) (fun _ _ _ h => h) (Or.inl ⟨by rfl, ?_⟩) hH ?_
            rotate_left
            · (intro w hSw; (try dsimp only at hSw); go_simp; (try with_reducible rfl))
            try simp only [Act.put, List.setIfInBounds_toArray, List.set_cons_zero, List.set_cons_succ]
            refine wpAnyH_take (i := 6) (oi := { dst := some 85, op := Op.fieldAddr 69 (Operand.tmp 7) 0, type := _, pos := _, after := _, guard := some (1, false) }) (v := ?_) rfl (by kernel_rfl) (by kernel_rfl) (by kernel_rfl) (fun _ _ _ h => h) (Or.inl ⟨by rfl, ?_⟩) hH ?_
            rotate_left
            · (intro w hSw; (try dsimp only at hSw); go_simp; (try with_reducible rfl))
            try simp only [Act.put, List.setIfInBounds_toArray, List.set_cons_zero, List.set_cons_succ]
            refine wpAnyH_take (i := 7) (oi := { dst := some 86, op := Op.load 42 (Operand.tmp 85), type := _, pos := _, after := _, guard := some (1, false) }) (v := ?_) rfl (by kernel_rfl) (by kernel_rfl) (by kernel_rfl) (fun _ _ _ h => h) (Or.inl ⟨by rfl, ?_⟩) hH ?_
            rotate_left
            · (intro w hSw; (try dsimp only at hSw); go_simp; (try with_reducible rfl))
            try simp only [Act.put, List.setIfInBounds_toArray, List.set_cons_zero, List.set_cons_succ]
            refine wpAnyH_take (i := 8) (oi := { dst := some 87, op := Op.move (Operand.tmp 5), type := _, pos := _, after := _, guard := some (1, false) }) (v := ?_) rfl (by kernel_rfl) (by kernel_rfl) (by kernel_rfl) (fun _ _ _ h => h) (Or.inl ⟨by rfl, ?_⟩) hH ?_
            rotate_left
            · (intro w hSw; (try dsimp only at hSw); go_simp; (try with_reducible rfl))
            try simp only [Act.put, List.setIfInBounds_toArray, List.set_cons_zero, List.set_cons_succ]
            refine wpAnyH_take (i := 9) (oi := { dst := some 88, op := Op.move (Operand.tmp 13), type := _, pos := _, after := _, guard := some (1, false) }) (v := ?_) rfl (by kernel_rfl) (by kernel_rfl) (by kernel_rfl) (fun _ _ _ h => h) (Or.inl ⟨by rfl, ?_⟩) hH ?_
            rotate_left
            · (intro w hSw; (try dsimp only at hSw); go_simp; (try with_reducible rfl))
            try simp only [Act.put, List.setIfInBounds_toArray, List.set_cons_zero, List.set_cons_succ]
            refine wpAnyH_take (i := 10) (oi := { dst := some 89, op := Op.indexAddr 55 (Operand.tmp 87) (Operand.tmp 88), type := _, pos := _, after := _, guard := some (1, false) }) (v := ?_) rfl (by kernel_rfl) (by kernel_rfl) (by kernel_rfl) (fun _ _ _ h => h) (Or.inl ⟨by rfl, ?_⟩) hH ?_
            rotate_left
            · (intro w hSw; (try dsimp only at hSw); go_simp; (try with_reducible rfl))
            try simp only [Act.put, List.setIfInBounds_toArray, List.set_cons_zero, List.set_cons_succ]
            refine wpAnyH_take (i := 11) (oi := { dst := some 90, op := Op.fieldAddr 69 (Operand.tmp 89) 0, type := _, pos := _, after := _, guard := some (1, false) }) (v := ?_) rfl (by kernel_rfl) (by kernel_rfl) (by kernel_rfl) (fun _ _ _ h => h) (Or.inl ⟨by rfl, ?_⟩) hH ?_
            rotate_left
            · (intro w hSw; (try dsimp only at hSw); go_simp; (try with_reducible rfl))
            try simp only [Act.put, List.setIfInBounds_toArray, List.set_cons_zero, List.set_cons_succ]
            refine wpAnyH_take (i := 12) (oi := { dst := some 91, op := Op.load 42 (Operand.tmp 90), type := _, pos := _, after := _, guard := some (1, false) }) (v := ?_) rfl (by kernel_rfl) (by kernel_rfl) (by kernel_rfl) (fun _ _ _ h => h) (Or.inl ⟨by rfl, ?_⟩) hH ?_
            rotate_left
            · (intro w hSw; (try dsimp only at hSw); go_simp; (try with_reducible rfl))
            try simp only [Act.put, List.setIfInBounds_toArray, List.set_cons_zero, List.set_cons_succ]
            refine wpAnyH_take (i := 13) (oi := { dst := some 92, op := Op.call { callee := Callee.builtin Builtin.min, args := #[Operand.tmp 86, Operand.tmp 91], argTypes := #[42, 42] }, type := _, pos := _, after := _, guard := some (1, false) }) (v := ?_) rfl (by kernel_rfl) (by kernel_rfl) (by kernel_rfl) (fun _ _ _ h => h) (Or.inl ⟨by rfl, ?_⟩) hH ?_
            rotate_left
            · (intro w hSw; (try dsimp only at hSw); go_simp; (try with_reducible rfl))
            try simp only [Act.put, List.setIfInBounds_toArray, List.set_cons_zero, List.set_cons_succ]
            refine wpAnyH_take (i := 14) (oi := { dst := some 93, op := Op.fieldAddr 69 (Operand.tmp 7) 0, type := _, pos := _, after := _, guard := some (1, false) }) (v := ?_) rfl (by kernel_rfl) (by kernel_rfl) (by kernel_rfl) (fun _ _ _ h => h) (Or.inl ⟨by rfl, ?_⟩) hH ?_
            rotate_left
            · (intro w hSw; (try dsimp only at hSw); go_simp; (try with_reducible rfl))
            try simp only [Act.put, List.setIfInBounds_toArray, List.set_cons_zero, List.set_cons_succ]
            refine wpAnyH_take (i := 15) (oi := { dst := some 94, op := Op.load 42 (Operand.tmp 93), type := _, pos := _, after := _, guard := some (1, false) }) (v := ?_) rfl (by kernel_rfl) (by kernel_rfl) (by kernel_rfl) (fun _ _ _ h => h) (Or.inl ⟨by rfl, ?_⟩) hH ?_
            rotate_left
            · (intro w hSw; (try dsimp only at hSw); go_simp; (try with_reducible rfl))
            try simp only [Act.put, List.setIfInBounds_toArray, List.set_cons_zero, List.set_cons_succ]
            refine wpAnyH_take (i := 16) (oi := { dst := some 95, op := Op.move (Operand.tmp 5), type := _, pos := _, after := _, guard := some (1, false) }) (v := ?_) rfl (by kernel_rfl) (by kernel_rfl) (by kernel_rfl) (fun _ _ _ h => h) (Or.inl ⟨by rfl, ?_⟩) hH ?_
            rotate_left
            · (intro w hSw; (try dsimp only at hSw); go_simp; (try with_reducible rfl))
            try simp only [Act.put, List.setIfInBounds_toArray, List.set_cons_zero, List.set_cons_succ]
            refine wpAnyH_take (i := 17) (oi := { dst := some 96, op := Op.move (Operand.tmp 13), type := _, pos := _, after := _, guard := some (1, false) }) (v := ?_) rfl (by kernel_rfl) (by kernel_rfl) (by kernel_rfl) (fun _ _ _ h => h) (Or.inl ⟨by rfl, ?_⟩) hH ?_
            rotate_left
            · (intro w hSw; (try dsimp only at hSw); go_simp; (try with_reducible rfl))
            try simp only [Act.put, List.setIfInBounds_toArray, List.set_cons_zero, List.set_cons_succ]
            refine wpAnyH_take (i := 18) (oi := { dst := some 97, op := Op.indexAddr 55 (Operand.tmp 95) (Operand.tmp 96), type := _, pos := _, after := _, guard := some (1, false) }) (v := ?_) rfl (by kernel_rfl) (by kernel_rfl) (by kernel_rfl) (fun _ _ _ h => h) (Or.inl ⟨by rfl, ?_⟩) hH ?_
            rotate_left
            · (intro w hSw; (try dsimp only at hSw); go_simp; (try with_reducible rfl))
            try simp only [Act.put, List.setIfInBounds_toArray, List.set_cons_zero, List.set_cons_succ]
            refine wpAnyH_take (i := 19) (oi := { dst := some 98, op := Op.fieldAddr 69 (Operand.tmp 97) 0, type := _, pos := _, after := _, guard := some (1, false) }) (v := ?_) rfl (by kernel_rfl) (by kernel_rfl) (by kernel_rfl) (fun _ _ _ h => h) (Or.inl ⟨by rfl, ?_⟩) hH ?_
            rotate_left
            · (intro w hSw; (try dsimp only at hSw); go_simp; (try with_reducible rfl))
            try simp only [Act.put, List.setIfInBounds_toArray, List.set_cons_zero, List.set_cons_succ]
            refine wpAnyH_take (i := 20) (oi := { dst := some 99, op := Op.load 42 (Operand.tmp 98), type := _, pos := _, after := _, guard := some (1, false) }) (v := ?_) rfl (by kernel_rfl) (by kernel_rfl) (by kernel_rfl) (fun _ _ _ h => h) (Or.inl ⟨by rfl, ?_⟩) hH ?_
            rotate_left
            · (intro w hSw; (try dsimp only at hSw); go_simp; (try with_reducible rfl))
            try simp only [Act.put, List.setIfInBounds_toArray, List.set_cons_zero, List.set_cons_succ]
            refine wpAnyH_take (i := 21) (oi := { dst := some 100, op := Op.call { callee := Callee.builtin Builtin.max, args := #[Operand.tmp 94, Operand.tmp 99], argTypes := #[42, 42] }, type := _, pos := _, after := _, guard := some (1, false) }) (v := ?_) rfl (by kernel_rfl) (by kernel_rfl) (by kernel_rfl) (fun _ _ _ h => h) (Or.inl ⟨by rfl, ?_⟩) hH ?_
            rotate_left
            · (intro w hSw; (try dsimp only at hSw); go_simp; (try with_reducible rfl))
            try simp only [Act.put, List.setIfInBounds_toArray, List.set_cons_zero, List.set_cons_succ]
            refine wpAnyH_take (i := 22) (oi := { dst := some 101, op := Op.build 44 #[(0, Operand.tmp 92), (1, Operand.tmp 100)], type := _, pos := _, after := _, guard := some (1, false) }) (v := ?_) rfl (by kernel_rfl) (by kernel_rfl) (by kernel_rfl) (fun _ _ _ h => h) (Or.inl ⟨by rfl, ?_⟩) hH ?_
            rotate_left
            · (intro w hSw; (try dsimp only at hSw); go_simp; (try with_reducible rfl))
            try simp only [Act.put, List.setIfInBounds_toArray, List.set_cons_zero, List.set_cons_succ]
            refine wpAnyH_take (i := 23) (oi := { dst := some 102, op := Op.binOp BinOp.eql 44 (Operand.tmp 84) (Operand.tmp 101) 44, type := _, pos := _, after := _, guard := some (1, false) }) (v := ?_) rfl (by kernel_rfl) (by kernel_rfl) (by kernel_rfl) (fun _ _ _ h => h) (Or.inl ⟨by rfl, ?_⟩) hH ?_
            rotate_left
            · (intro w hSw; (try dsimp only at hSw); go_simp; (try with_reducible rfl))
            try simp only [Act.put, List.setIfInBounds_toArray, List.set_cons_zero, List.set_cons_succ]
            refine wpAnyH_take (i := 24) (oi := { dst := some 103, op := Op.pick (Operand.tmp 80) (Operand.const (Value.bool true)) (Operand.tmp 102), type := _, pos := _, after := _, guard := none }) (v := ?_) rfl (by kernel_rfl) (by kernel_rfl) (by kernel_rfl) (fun _ _ _ h => h) (Or.inl ⟨by rfl, ?_⟩) hH ?_
            rotate_left
            · (intro w hSw; (try dsimp only at hSw); go_simp; (try with_reducible rfl))
            try simp only [Act.put, List.setIfInBounds_toArray, List.set_cons_zero, List.set_cons_succ]
            refine wpAnyH_take (i := 25) (oi := { dst := some 14, op := Op.assign (Operand.tmp 103), type := _, pos := _, after := _, guard := none }) (v := ?_) rfl (by kernel_rfl) (by kernel_rfl) (by kernel_rfl) (fun _ _ _ h => h) (Or.inl ⟨by rfl, ?_⟩) hH ?_
            rotate_left
            · (intro w hSw; (try dsimp only at hSw); go_simp; (try with_reducible rfl))
            try simp only [Act.put, List.setIfInBounds_toArray, List.set_cons_zero, List.set_cons_succ]
            refine wpAnyH_done (by kernel_rfl) ?_ _
            refine NoPanic.normal ?_
            clear t0 p0 r0 r1 gg
            obtain ⟨t0, p0, r0, r1, gg⟩ := hH
            go_wp2_with fail
            go_roundw
            case rel => exact ⟨l + 1, z2, by omega, by go_num, by simp, by have := HZ2.out; exact Lib.hid (by simpa using this), Lib.hid gg⟩
            case measure => simp [RowKit.intOf]; omega
          · go_wp2_with fail
            refine wp_region_noPanic ?_
            refine wp_region_held_drew (S := (fun w' => w'.cell? ⟨gl, off + k * 10, none⟩ = some (.int .u32 yk) ∧ w'.cell? ⟨w2.heap.size, 0, none⟩ = some (.int .u32 xk) ∧ w'.cell? ⟨gp, op + l * 2, none⟩ = some (.int .u32 ta) ∧ w'.cell? ⟨gp, op + l * 2 + 1, none⟩ = some (.int .u32 tb) ∧ Kep wo.heap.size wo w')) (by kernel_rfl) (⟨by rw [World.cell?_drew]; exact t0, by rw [World.cell?_drew]; exact p0, by rw [World.cell?_drew]; exact r0, by rw [World.cell?_drew]; exact r1, kep_drew gg⟩) (fun hH => ?_)
            refine wpAnyH_take (i := 0) (oi := { dst := some 79, op := Op.move (Operand.tmp 14), type := _, pos := _, after := _, guard := none }) (v := ?_) rfl (by kernel_rfl) (by kernel_rfl) (by kernel_rfl) (fun _ _ _ h => h) (Or.inl ⟨by rfl, ?_⟩) hH ?_
            rotate_left
            · (intro w hSw; (try dsimp only at hSw); go_simp; (try with_reducible rfl))
            try simp only [Act.put, List.setIfInBounds_toArray, List.set_cons_zero, List.set_cons_succ]
            refine wpAnyH_take (i := 1) (oi := { dst := some 80, op := Op.move (Operand.tmp 79), type := _, pos := _, after := _, guard := none }) (v := ?_) rfl (by kernel_rfl) (by kernel_rfl) (by kernel_rfl) (fun _ _ _ h => h) (Or.inl ⟨by rfl, ?_⟩) hH ?_
            rotate_left
            · (intro w hSw; (try dsimp only at hSw); go_simp; (try with_reducible rfl))
            try simp only [Act.put, List.setIfInBounds_toArray, List.set_cons_zero, List.set_cons_succ]
            refine wpAnyH_take (i := 2) (oi := { dst := some 81, op := Op.move (Operand.tmp 10), type := _, pos := _, after := _, guard := some (1, false) }) (v := undef) rfl (by kernel_rfl) (by kernel_rfl) (by kernel_rfl) (fun _ _ _ h => h) (Or.inr ⟨by rfl, rfl⟩) hH ?_
            try simp only [Act.put, List.setIfInBounds_toArray, List.set_cons_zero, List.set_cons_succ]
            refine wpAnyH_take (i := 3) (oi := { dst := some 82, op := Op.move (Operand.tmp 15), type := _, pos := _, after := _, guard := some (1, false) }) (v := undef) rfl (by kernel_rfl) (by kernel_rfl) (by kernel_rfl) (fun _ _ _ h => h) (Or.inr ⟨by rfl, rfl⟩) hH ?_
            try simp only [Act.put, List.setIfInBounds_toArray, List.set_cons_zero, List.set_cons_succ]
            refine wpAnyH_take (i := 4) (oi := { dst := some 83, op := Op.indexAddr 35 (Operand.tmp 81) (Operand.tmp 82), type := _, pos := _, after := _, guard := some (1, false) }) (v := undef) rfl (by kernel_rfl) (by kernel_rfl) (by kernel_rfl) (fun _ _ _ h => h) (Or.inr ⟨by rfl, rfl⟩) hH ?_
            try simp only [Act.put, List.setIfInBounds_toArray, List.set_cons_zero, List.set_cons_succ]
            refine wpAnyH_take (i := 5) (oi := { dst := some 84, op := Op.load 44 (Operand.tmp 83), type := _, pos := _, after := _, guard := some (1, false) }) (v := undef) rfl (by kernel_rfl) (by kernel_rfl) (by kernel_rfl) (fun _ _ _ h => h) (Or.inr ⟨by rfl, rfl⟩) hH ?_
            try simp only [Act.put, List.setIfInBounds_toArray, List.set_cons_zero, List.set_cons_succ]
            refine wpAnyH_take (i := 6) (oi := { dst := some 85, op := Op.fieldAddr 69 (Operand.tmp 7) 0, type := _, pos := _, after := _, guard := some (1, false) }) (v := undef) rfl (by kernel_rfl) (by kernel_rfl) (by kernel_rfl) (fun _ _ _ h => h) (Or.inr ⟨by rfl, rfl⟩) hH ?_
            try simp only [Act.put, List.setIfInBounds_toArray, List.set_cons_zero, List.set_cons_succ]
            refine wpAnyH_take (i := 7) (oi := { dst := some 86, op := Op.load 42 (Operand.tmp 85), type := _, pos := _, after := _, guard := some (1, false) }) (v := undef) rfl (by kernel_rfl) (by kernel_rfl) (by kernel_rfl) (fun _ _ _ h => h) (Or.inr ⟨by rfl, rfl⟩) hH ?_
            try simp only [Act.put, List.setIfInBounds_toArray, List.set_cons_zero, List.set_cons_succ]
            refine wpAnyH_take (i := 8) (oi := { dst := some 87, op := Op.move (Operand.tmp 5), type := _, pos := _, after := _, guard := some (1, false) }) (v := undef) rfl (by kernel_rfl) (by kernel_rfl) (by kernel_rfl) (fun _ _ _ h => h) (Or.inr ⟨by rfl, rfl⟩) hH ?_
            try simp only [Act.put, List.setIfInBounds_toArray, List.set_cons_zero, List.set_cons_succ]
            refine wpAnyH_take (i := 9) (oi := { dst := some 88, op := Op.move (Operand.tmp 13), type := _, pos := _, after := _, guard := some (1, false) }) (v := undef) rfl (by kernel_rfl) (by kernel_rfl) (by kernel_rfl) (fun _ _ _ h => h) (Or.inr ⟨by rfl, rfl⟩) hH ?_
            try simp only [Act.put, List.setIfInBounds_toArray, List.set_cons_zero, List.set_cons_succ]
            refine wpAnyH_take (i := 10) (oi := { dst := some 89, op := Op.indexAddr 55 (Operand.tmp 87) (Operand.tmp 88), type := _, pos := _, after := _, guard := some (1, false) }) (v := undef) rfl (by kernel_rfl) (by kernel_rfl) (by kernel_rfl) (fun _ _ _ h => h) (Or.inr ⟨by rfl, rfl⟩) hH ?_
            try simp only [Act.put, List.setIfInBounds_toArray, List.set_cons_zero, List.set_cons_succ]
            refine wpAnyH_take (i := 11) (oi := { dst := some 90, op := Op.fieldAddr 69 (Operand.tmp 89) 0, type := _, pos := _, after := _, guard := some (1, false) }) (v := undef) rfl (by kernel_rfl) (by kernel_rfl) (by kernel_rfl) (fun _ _ _ h => h) (Or.inr ⟨by rfl, rfl⟩) hH ?_
            try simp only [Act.put, List.setIfInBounds_toArray, List.set_cons_zero, List.set_cons_succ]
            refine wpAnyH_take (i := 12) (oi := { dst := some 91, op := Op.load 42 (Operand.tmp 90), type := _, pos := _, after := _, guard := some (1, false) }) (v := undef) rfl (by kernel_rfl) (by kernel_rfl) (by kernel_rfl) (fun _ _ _ h => h) (Or.inr ⟨by rfl, rfl⟩) hH ?_
            try simp only [Act.put, List.setIfInBounds_toArray, List.set_cons_zero, List.set_cons_succ]
            refine wpAnyH_take (i := 13) (oi := { dst := some 92, op := Op.call { callee := Callee.builtin Builtin.min, args := #[Operand.tmp 86, Operand.tmp 91], argTypes := #[42, 42] }, type := _, pos := _, after := _, guard := some (1, false) }) (v := undef) rfl (by kernel_rfl) (by kernel_rfl) (by kernel_rfl) (fun _ _ _ h => h) (Or.inr ⟨by rfl, rfl⟩) hH ?_
            try simp only [Act.put, List.setIfInBounds_toArray, List.set_cons_zero, List.set_cons_succ]
            refine wpAnyH_take (i := 14) (oi := { dst := some 93, op := Op.fieldAddr 69 (Operand.tmp 7) 0, type := _, pos := _, after := _, guard := some (1, false) }) (v := undef) rfl (by kernel_rfl) (by kernel_rfl) (by kernel_rfl) (fun _ _ _ h => h) (Or.inr ⟨by rfl, rfl⟩) hH ?_
            try simp only [Act.put, List.setIfInBounds_toArray, List.set_cons_zero, List.set_cons_succ]
            refine wpAnyH_take (i := 15) (oi := { dst := some 94, op := Op.load 42 (Operand.tmp 93), type := _, pos := _, after := _, guard := some (1, false) }) (v := undef) rfl (by kernel_rfl) (by kernel_rfl) (by kernel_rfl) (fun _ _ _ h => h) (Or.inr ⟨by rfl, rfl⟩) hH ?_
            try simp only [Act.put, List.setIfInBounds_toArray, List.set_cons_zero, List.set_cons_succ]
            refine wpAnyH_take (i := 16) (oi := { dst := some 95, op := Op.move (Operand.tmp 5), type := _, pos := _, after := _, guard := some (1, false) }) (v := undef) rfl (by kernel_rfl) (by kernel_rfl) (by kernel_rfl) (fun _ _ _ h => h) (Or.inr ⟨by rfl, rfl⟩) hH ?_
            try simp only [Act.put, List.setIfInBounds_toArray, List.set_cons_zero, List.set_cons_succ]
            refine wpAnyH_take (i := 17) (oi := { dst := some 96, op := Op.move (Operand.tmp 13), type := _, pos := _, after := _, guard := some (1, false) }) (v := undef) rfl (by kernel_rfl) (by kernel_rfl) (by kernel_rfl) (fun _ _ _ h => h) (Or.inr ⟨by rfl, rfl⟩) hH ?_
            try simp only [Act.put, List.setIfInBounds_toArray, List.set_cons_zero, List.set_cons_succ]
            refine wpAnyH_take (i := 18) (oi := { dst := some 97, op := Op.indexAddr 55 (Operand.tmp 95) (Operand.tmp 96), type := _, pos := _, after := _, guard := some (1, false) }) (v := undef) rfl (by kernel_rfl) (by kernel_rfl) (by kernel_rfl) (fun _ _ _ h => h) (Or.inr ⟨by rfl, rfl⟩) hH ?_
            try simp only [Act.put, List.setIfInBounds_toArray, List.set_cons_zero, List.set_cons_succ]
            refine wpAnyH_take (i := 19) (oi := { dst := some 98, op := Op.fieldAddr 69 (Operand.tmp 97) 0, type := _, pos := _, after := _, guard := some (1, false) }) (v := undef) rfl (by kernel_rfl) (by kernel_rfl) (by kernel_rfl) (fun _ _ _ h => h) (Or.inr ⟨by rfl, rfl⟩) hH ?_
            try simp only [Act.put, List.setIfInBounds_toArray, List.set_cons_zero, List.set_cons_succ]
            refine wpAnyH_take (i := 20) (oi := { dst := some 99, op := Op.load 42 (Operand.tmp 98), type := _, pos := _, after := _, guard := some (1, false) }) (v := undef) rfl (by kernel_rfl) (by kernel_rfl) (by kernel_rfl) (fun _ _ _ h => h) (Or.inr ⟨by rfl, rfl⟩) hH ?_
            try simp only [Act.put, List.setIfInBounds_toArray, List.set_cons_zero, List.set_cons_succ]
            refine wpAnyH_take (i := 21) (oi := { dst := some 100, op := Op.call { callee := Callee.builtin Builtin.max, args := #[Operand.tmp 94, Operand.tmp 99], argTypes := #[42, 42] }, type := _, pos := _, after := _, guard := some (1, false) }) (v := undef) rfl (by kernel_rfl) (by kernel_rfl) (by kernel_rfl) (fun _ _ _ h => h) (Or.inr ⟨by rfl, rfl⟩) hH ?_
            try simp only [Act.put, List.setIfInBounds_toArray, List.set_cons_zero, List.set_cons_succ]
            refine wpAnyH_take (i := 22) (oi := { dst := some 101, op := Op.build 44 #[(0, Operand.tmp 92), (1, Operand.tmp 100)], type := _, pos := _, after := _, guard := some (1, false) }) (v := undef) rfl (by kernel_rfl) (by kernel_rfl) (by kernel_rfl) (fun _ _ _ h => h) (Or.inr ⟨by rfl, rfl⟩) hH ?_
            try simp only [Act.put, List.setIfInBounds_toArray, List.set_cons_zero, List.set_cons_succ]
            refine wpAnyH_take (i := 23) (oi := { dst := some 102, op := Op.binOp BinOp.eql 44 (Operand.tmp 84) (Operand.tmp 101) 44, type := _, pos := _, after := _, guard := some (1, false) }) (v := undef) rfl (by kernel_rfl) (by kernel_rfl) (by kernel_rfl) (fun _ _ _ h => h) (Or.inr ⟨by rfl, rfl⟩) hH ?_
            try simp only [Act.put, List.setIfInBounds_toArray, List.set_cons_zero, List.set_cons_succ]
            refine wpAnyH_take (i := 24) (oi := { dst := some 103, op := Op.pick (Operand.tmp 80) (Operand.const (Value.bool true)) (Operand.tmp 102), type := _, pos := _, after := _, guard := none }) (v := ?_) rfl (by kernel_rfl) (by kernel_rfl) (by kernel_rfl) (fun _ _ _ h => h) (Or.inl ⟨by rfl, ?_⟩) hH ?_
            rotate_left
            · (intro w hSw; (try dsimp only at hSw); go_simp; (try with_reducible rfl))
            try simp only [Act.put, List.setIfInBounds_toArray, List.set_cons_zero, List.set_cons_succ]
            refine wpAnyH_take (i := 25) (oi := { dst := some 14, op := Op.assign (Operand.tmp 103), type := _, pos := _, after := _, guard := none }) (v := ?_) rfl (by kernel_rfl) (by kernel_rfl) (by kernel_rfl) (fun _ _ _ h => h) (Or.inl ⟨by rfl, ?_⟩) hH ?_
            rotate_left
            · (intro w hSw; (try dsimp only at hSw); go_simp; (try with_reducible rfl))
            try simp only [Act.put, List.setIfInBounds_toArray, List.set_cons_zero, List.set_cons_succ]
            refine wpAnyH_done (by kernel_rfl) ?_ _
            refine NoPanic.normal ?_
            clear t0 p0 r0 r1 gg
            obtain ⟨t0, p0, r0, r1, gg⟩ := hH
            go_wp2_with fail
            go_roundw
            case rel => exact ⟨l + 1, true, by omega, by go_num, by simp, by have := HZ2.out; exact Lib.hid (by simpa using this), Lib.hid gg⟩
            case measure => simp [RowKit.intOf]; omega
        · obtain rfl : l = nc := by omega
          have ht : C.take l = C := List.take_of_length_le (by rw [HNC.out]; omega)
          have HZ3 : Hid (wiT C x y = z) := Lib.hid (by rw [HWT.out]; have := HZ.out; rw [ht] at this; exact this)
          have HO3 := Lib.hid (own_kep HO2.out HK.out (Nat.le_refl _))
          have t0 := gg.all HT0.out
          clear ht
          cases z
          · go_wp2_with fail
            go_roundw
            case rel => exact ⟨k + 1, by omega, by go_num, Lib.hid ⟨by rw [filt_at HY.out, HZ3.out]; simpa using HO3.out, gg⟩⟩
            case measure => simp [RowKit.intOf]; omega
          · go_wp2_with (first
              | (at_builtin; refine wpList_app kv 1 kv_len kv_one rfl _ _ 27 rfl 42 _ 4 Tryd.underlying27 info_u32 rfl (by decide) w5.heap.size _ _ (((A.take k).filter (wiT C x)).map (·.k)) yk rfl HO3.out _ (by first | rfl | simp) rfl _ rfl (by have := HPL.out; unfold maxLen; omega) (by have := HPL.out; omega) (by have := gg.size; omega) ?_; intro v6 w6 o6 k6))
            have HM : Hid (w6.ownsRow w5.heap.size 42 1 v6 (((A.take (k + 1)).filter (wiT C x)).map (·.k)).length ((((A.take (k + 1)).filter (wiT C x)).map (·.k)).flatMap kv) ∧ Kep w5.heap.size w5 w6) := Lib.hid ⟨by rw [filt_at HY.out, HZ3.out, if_pos rfl, ← HYK.out]; exact o6, gg.trans k6⟩
            clear o6 k6
            go_roundw
            case rel => exact ⟨k + 1, by omega, by go_num, HM⟩
            case measure => simp [RowKit.intOf]; omega
    · obtain rfl : k = na := by omega
      obtain ⟨h1, h2⟩ := HP.out
      have ht : A.take k = A := List.take_of_length_le (by rw [HN.out]; omega)
      rw [ht, ← HWS.out] at h1
      have ow := own_sq kv_len h1
      have q4 := HQ4.out.kep gg
      have hwl := with_len A qa qb qc qd
      rw [HN.out] at hwl
      clear h1 h2 ht
      go_wp2_with (first
        | (refine (keys_any _ _ _ _ _ (kv_klst q4) (kv_klst ow) (by omega) true (by simp)).mono ?_; rintro e w7 ⟨rfl, g7⟩))
      go_ret
      exact ⟨rfl, kep_next (kep_next G0.out gg) g7⟩
/-- The law PairsWithin. -/
theorem pwl_law (O : POps) (AW : PAwake) (t : Int) (ht : 0 ≤ t ∧ t < 256) (L : List Bd) (v : Value) (w : World) (F0 : Fac w) (hq : Lst w v L) (HF : ∀ x ∈ L, Fits x) : Calls Tryd.prog 12 #[v, .int .u8 t] w fun e w' => e = .returned (.bool true) ∧ Kep w.heap.size w w' := by
  cases hvw : viwB L
  · exact pwl_bad (Lib.hid AW) t L v w F0 hq hvw
  · cases hA : sortL L with
    | nil => exact pwl_nil (Lib.hid AW) t L v w F0 hq (Lib.hid HF) hvw hA
    | cons a l =>
      have hp : 0 < (sortL L).length := by rw [hA]; simp
      have h1 := Int.emod_nonneg t (show ((sortL L).length : Int) ≠ 0 by omega)
      have h2 := Int.emod_lt_of_pos t (show (0 : Int) < ((sortL L).length : Int) by omega)
      exact pwl_ok O (Lib.hid AW) t ht L v w F0 hq (Lib.hid HF) hvw (t % ((sortL L).length : Int)).toNat (by omega) (by omega)
end Go.Proofs.YtnmnbogjnjbopaaDoor
