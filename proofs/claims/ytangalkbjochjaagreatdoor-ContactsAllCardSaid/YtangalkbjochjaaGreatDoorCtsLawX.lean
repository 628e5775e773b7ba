/-
  Package contacts: the law ContactsAll.
-/
import Derived.Test.YtangalkbjochjaaGreatDoorCtsCon
import Derived.Test.YtangalkbjochjaaGreatDoorJ03Fac
import Derived.Deep.DeepCutAuto
import Derived.Deep.QuietTactic
import Derived.BigQuiet
namespace Go.Proofs.YtangalkbjochjaaGreatDoor
open Go.RowKit Go.Lib

theorem kma {w : World} {o : Obj} {a : Addr} {v : Value} (h : w.cell? a = some v := by assumption) : (w.alloc o).cell? a = some v := Kep.all (kep_more (Kep.refl _ _) _) h
theorem cons_next {L : List Bd} (h : Asc L) {k : Nat} {p q : Ct} (hp : (consL L)[k]? = some p) (hq : (consL L)[k + 1]? = some q) : pless (p.lo, p.hi) (q.lo, q.hi) = true := by
  obtain ⟨h1, e1⟩ := List.getElem?_eq_some_iff.1 hp
  obtain ⟨h2, e2⟩ := List.getElem?_eq_some_iff.1 hq
  have := List.pairwise_iff_getElem.1 (cons_sort h) k (k + 1) h1 h2 (by omega)
  rw [e1, e2] at this
  unfold cless at this
  unfold pless
  exact decide_eq_true (of_decide_eq_true this)
/-- A contact's bodies, where they lie. -/
structure AtC (A : List Bd) (c : Ct) (a b : Nat) (x y : Bd) : Prop where
  pa : place A c.lo 0 = (a : Int)
  pb : place A c.hi 0 = (b : Int)
  xa : A[a]? = some x
  yb : A[b]? = some y
  lt : a < b
  kl : x.k < y.k
  tc : tchB x y = true
  eq : conV x y = c
theorem place_at {L : List Bd} (h : Asc L) {x : Bd} (hx : x ∈ L) : ∃ j : Nat, place L x.k 0 = (j : Int) ∧ L[j]? = some x := by
  obtain ⟨j, hj, hg⟩ := (place_eq L x.k 0).2 x (look_mem h.once hx)
  exact ⟨j, by rw [hj, Nat.zero_add], hg⟩
theorem cons_place {L : List Bd} (h : Asc L) {c : Ct} (hc : c ∈ consL L) : ∃ a b x y, AtC L c a b x y := by
  obtain ⟨x, hx, y, hy, h1, h2, rfl⟩ := (cons_mem h c).1 hc
  obtain ⟨a, ha, xa⟩ := place_at h hx
  obtain ⟨b, hb, yb⟩ := place_at h hy
  refine ⟨a, b, x, y, ha, hb, xa, yb, ?_, h1, h2, by unfold conV; rw [if_pos h2]⟩
  rcases Nat.lt_trichotomy a b with q | q | q
  · exact q
  · subst q; rw [xa] at yb; injection yb with e; rw [e] at h1; omega
  · have := asc_lt h yb xa q; omega
set_option maxRecDepth 100000 in
set_option maxHeartbeats 2000000 in
theorem cxl_bad (AW : Hid CAwake)  (L : List Bd) (v : Value) (w : World) (F0 : Fac w) (hq : Lst w v L) (hvw : viwB L = false) : Calls Tryz.prog 4 #[v] w fun e w' => e = .returned (.bool true) ∧ Kep w.heap.size w w' := by
  obtain ⟨base, cap, rfl⟩ := hq.shape
  have HQ := Lib.hid hq
  clear hq
  have VW : Hid (∀ v w, Lst w v L → Calls Tryz.prog 8 #[v] w fun e w' => ∃ v', e = .returned (.tuple #[v', .bool false]) ∧ Lst w' v' (if L.length ≤ 40 then sortL L else []) ∧ Kep w.heap.size w w') := Lib.hid (fun v w h => (rvw L v w h).mono fun e w' ⟨v', h1, h2, h3⟩ => ⟨v', by rw [h1]; rw [hvw], h2.1, h3⟩)
  go_enter Tryz.func4, Tryz.ntmps4
  go_wp2_with (first
    | ((with_reducible refine (VW.out _ _ (HQ.out.kep (Kep.refl _ _))).mono ?_); rintro e w1 ⟨v1, rfl, l1, g1⟩
       have gg := kep_next (Kep.refl _ _) g1)
    | ((with_reducible refine (AW.out _ (F0.kep (by (repeat (first | with_reducible assumption | refine kep_more ?_ _ | refine kep_drew ?_ | exact Kep.refl _ _))))).mono ?_); rintro e w2 ⟨rfl, g2⟩
       replace gg := kep_next gg g2
       replace l1 := l1.kep g2))
  go_ret
  exact ⟨rfl, gg⟩
set_option maxRecDepth 100000 in
set_option maxHeartbeats 8000000 in
theorem cxl_ok (O : COps) (AW : Hid CAwake) (L : List Bd) (v : Value) (w : World) (F0 : Fac w) (hq : Lst w v L) (HF : Hid (∀ x ∈ L, Fits x)) (hvw : viwB L = true) : Calls Tryz.prog 4 #[v] w fun e w' => e = .returned (.bool true) ∧ Kep w.heap.size w w' := by
  obtain ⟨base, cap, rfl⟩ := hq.shape
  have HQ := Lib.hid hq
  clear hq
  have VW : Hid (∀ v w, Lst w v L → Calls Tryz.prog 8 #[v] w fun e w' => ∃ v', e = .returned (.tuple #[v', .bool true]) ∧ Lst w' v' (sortL L) ∧ Kep w.heap.size w w') := Lib.hid (fun v w h => (rvw L v w h).mono fun e w' ⟨v', h1, h2, h3⟩ => ⟨v', by rw [h1]; rw [hvw], by have := h2.1; rw [if_pos (vw_of hvw HF.out).1] at this; exact this, h3⟩)
  have HVW := Lib.hid (vw_of hvw HF.out).2.2
  obtain ⟨A, hA⟩ : ∃ A, A = sortL L := ⟨_, rfl⟩
  rw [← hA] at VW HVW
  go_enter Tryz.func4, Tryz.ntmps4
  go_wp2_with (first
    | ((with_reducible refine (VW.out _ _ (HQ.out.kep (Kep.refl _ _))).mono ?_); rintro e w1 ⟨v1, rfl, l1, g1⟩
       have gg := kep_next (Kep.refl _ _) g1)
    | ((with_reducible refine (AW.out _ (F0.kep (by (repeat (first | with_reducible assumption | refine kep_more ?_ _ | refine kep_drew ?_ | exact Kep.refl _ _))))).mono ?_); rintro e w2 ⟨rfl, g2⟩
       replace gg := kep_next gg g2
       replace l1 := l1.kep g2)
    | ((with_reducible refine (O.all _ A _ (F0.kep gg) l1 HVW.out).mono ?_); rintro e w3 ⟨v3, n3, rfl, ⟨q3, hn1, hn2, -⟩, g3⟩
       have HN1 := Lib.hid hn1
       have HN2 := Lib.hid hn2
       clear hn1 hn2
       replace gg := kep_next gg g3
       replace l1 := l1.kep g3))
  have G0 := Lib.hid gg
  have HL := Lib.hid l1
  obtain ⟨bc, cc, rfl, hc⟩ := q3
  have HC := Lib.hid hc
  obtain ⟨ba, ca, rfl⟩ := l1.shape
  have HCA := Lib.hid (fun (k : Nat) (x : Bd) (hx : A[k]? = some x) => l1.at_ hx)
  clear hc gg l1
  obtain ⟨C, hC⟩ : ∃ C, C = consL A := ⟨_, rfl⟩
  have hAl := HVW.out.len
  have hlC : C.length ≤ 780 := by rw [hC]; exact cons_max HVW.out.len
  have HM2 : Hid (∀ (k : Nat) (p q : Ct), C[k]? = some p → C[k + 1]? = some q → pless (p.lo, p.hi) (q.lo, q.hi) = true) := Lib.hid (fun k p q h1 h2 => cons_next HVW.out.asc (by rw [← hC]; exact h1) (by rw [← hC]; exact h2))
  have HM3 : Hid (∀ c ∈ C, ∃ a b x y, AtC A c a b x y) := Lib.hid (fun c hc => cons_place HVW.out.asc (by rw [← hC]; exact hc))
  have FD := Lib.hid (fun v key w h => find_any v A key w h (by omega))
  rw [← hC] at HC HN1 ⊢
  clear hC
  generalize hnc : C.length = nc at *
  generalize hna : A.length = na at *
  have HNC := Lib.hid hnc
  have HNA := Lib.hid hna
  clear hnc hna
  obtain ⟨n1, hn1⟩ : ∃ n1, n1 = (na : Int) - 1 := ⟨_, rfl⟩
  obtain ⟨n2, hn2⟩ : ∃ n2, n2 = (na : Int) * n1 := ⟨_, rfl⟩
  have hb1 : -1 ≤ n1 ∧ n1 ≤ 39 := by omega
  have hb2 : 0 ≤ n2 ∧ n2 ≤ 1600 := by
    rw [hn2]
    rcases Nat.eq_zero_or_pos na with q | q
    · rw [q]; simp
    · have h1 := Int.mul_le_mul (show (na : Int) ≤ 40 by omega) hb1.2 (by omega) (by omega)
      have h2 := Int.mul_nonneg (show (0 : Int) ≤ (na : Int) by omega) (show 0 ≤ n1 by omega)
      omega
  have f1 : wrap64 ((na : Int) - 1) = n1 := by unfold wrap64; omega
  have f2 : IntKind.i64.wrap ((na : Int) - 1) = n1 := by rw [IntKind.wrap_i64]; omega
  have f3 : wrap64 ((na : Int) * n1) = n2 := by rw [← hn2]; unfold wrap64; omega
  have f4 : IntKind.i64.wrap ((na : Int) * n1) = n2 := by rw [← hn2, IntKind.wrap_i64]; omega
  have f5 : (nc : Int) ≤ n3 := HN1.out
  have f6 : n3 ≤ n2 / 2 := by have := HN2.out; rw [← hn1, ← hn2] at this; omega
  have f7 : Int.tdiv n2 2 = n2 / 2 := Int.tdiv_eq_ediv_of_nonneg hb2.1
  clear hn1 hn2
  go_wp2_with fail
  go_loopw [7] (fun i wr => ∃ k : Nat, k ≤ nc ∧ i = .int .i64 k ∧ Hid (Kep w3.heap.size w3 wr)) (fun i _ => nc - (RowKit.intOf i).toNat)
  case atStart => exact ⟨0, by omega, rfl, Lib.hid (Kep.refl _ _)⟩
  case round =>
    obtain ⟨k, hk, rfl, HK⟩ := hrel
    have gg := HK.out
    by_cases hlt : k < nc
    · have hb : C[k]? = some (C[k]'(by rw [HNC.out]; exact hlt)) := List.getElem?_eq_getElem _
      generalize C[k]'(by rw [HNC.out]; exact hlt) = c at hb
      obtain ⟨gc, oc, rfl, q⟩ := HC.out k c hb
      obtain ⟨a, b, x, y, hac⟩ := HM3.out c (List.mem_of_getElem? hb)
      obtain ⟨gl, off, rfl, qx⟩ := HCA.out a x hac.xa
      obtain ⟨_, _, he, qy⟩ := HCA.out b y hac.yb
      injection he with he
      injection he with h1 h2
      subst h1 h2
      have hbl : b < na := by have := (List.getElem?_eq_some_iff.1 hac.yb).1; rw [HNA.out] at this; exact this
      have hab := hac.lt
      have RO := Lib.hid (kro_lt (okc_of HVW.out x (List.mem_of_getElem? hac.xa)) (okc_of HVW.out y (List.mem_of_getElem? hac.yb)) hac.kl)
      rw [hac.eq, hac.tc] at RO
      have t0 : wr.cell? ⟨gc, oc + k * 5, none⟩ = some (.int .u32 c.lo) := gg.all (q 0 _ rfl)
      have t1 : wr.cell? ⟨gc, oc + k * 5 + 1, none⟩ = some (.int .u32 c.hi) := gg.all (q 1 _ rfl)
      have t2 : wr.cell? ⟨gc, oc + k * 5 + 2, none⟩ = some (.int .i32 c.nx) := gg.all (q 2 _ rfl)
      have t3 : wr.cell? ⟨gc, oc + k * 5 + 3, none⟩ = some (.int .i32 c.ny) := gg.all (q 3 _ rfl)
      have t4 : wr.cell? ⟨gc, oc + k * 5 + 4, none⟩ = some (.int .i32 c.dp) := gg.all (q 4 _ rfl)
      have x0 : wr.cell? ⟨gl, off + a * 10, none⟩ = some (.int .u32 x.k) := gg.all (qx 0 (by decide))
      have x1 : wr.cell? ⟨gl, off + a * 10 + 1, none⟩ = some (.int .i32 x.r) := gg.all (qx 1 (by decide))
      have x2 : wr.cell? ⟨gl, off + a * 10 + 2, none⟩ = some (.int .i32 x.ax) := gg.all (qx 2 (by decide))
      have x3 : wr.cell? ⟨gl, off + a * 10 + 3, none⟩ = some (.int .i32 x.ay) := gg.all (qx 3 (by decide))
      have x4 : wr.cell? ⟨gl, off + a * 10 + 4, none⟩ = some (.int .i32 x.m) := gg.all (qx 4 (by decide))
      have x5 : wr.cell? ⟨gl, off + a * 10 + 5, none⟩ = some (.int .i32 x.o) := gg.all (qx 5 (by decide))
      have x6 : wr.cell? ⟨gl, off + a * 10 + 6, none⟩ = some (.int .i32 x.px) := gg.all (qx 6 (by decide))
      have x7 : wr.cell? ⟨gl, off + a * 10 + 7, none⟩ = some (.int .i32 x.py) := gg.all (qx 7 (by decide))
      have x8 : wr.cell? ⟨gl, off + a * 10 + 8, none⟩ = some (.int .i32 x.vx) := gg.all (qx 8 (by decide))
      have x9 : wr.cell? ⟨gl, off + a * 10 + 9, none⟩ = some (.int .i32 x.vy) := gg.all (qx 9 (by decide))
      have y0 : wr.cell? ⟨gl, off + b * 10, none⟩ = some (.int .u32 y.k) := gg.all (qy 0 (by decide))
      have y1 : wr.cell? ⟨gl, off + b * 10 + 1, none⟩ = some (.int .i32 y.r) := gg.all (qy 1 (by decide))
      have y2 : wr.cell? ⟨gl, off + b * 10 + 2, none⟩ = some (.int .i32 y.ax) := gg.all (qy 2 (by decide))
      have y3 : wr.cell? ⟨gl, off + b * 10 + 3, none⟩ = some (.int .i32 y.ay) := gg.all (qy 3 (by decide))
      have y4 : wr.cell? ⟨gl, off + b * 10 + 4, none⟩ = some (.int .i32 y.m) := gg.all (qy 4 (by decide))
      have y5 : wr.cell? ⟨gl, off + b * 10 + 5, none⟩ = some (.int .i32 y.o) := gg.all (qy 5 (by decide))
      have y6 : wr.cell? ⟨gl, off + b * 10 + 6, none⟩ = some (.int .i32 y.px) := gg.all (qy 6 (by decide))
      have y7 : wr.cell? ⟨gl, off + b * 10 + 7, none⟩ = some (.int .i32 y.py) := gg.all (qy 7 (by decide))
      have y8 : wr.cell? ⟨gl, off + b * 10 + 8, none⟩ = some (.int .i32 y.vx) := gg.all (qy 8 (by decide))
      have y9 : wr.cell? ⟨gl, off + b * 10 + 9, none⟩ = some (.int .i32 y.vy) := gg.all (qy 9 (by decide))
      have hpa := hac.pa
      have hpb := hac.pb
      have FA := Lib.hid (fun w h => (show Calls Tryz.prog 16 #[.slice (some ⟨gl, off, none⟩) na ca, .int .u32 c.lo] w fun e w' => e = .returned (.int .i64 (a : Int)) ∧ w = w' by rw [← hpa]; exact FD.out _ c.lo w h))
      have FB := Lib.hid (fun w h => (show Calls Tryz.prog 16 #[.slice (some ⟨gl, off, none⟩) na ca, .int .u32 c.hi] w fun e w' => e = .returned (.int .i64 (b : Int)) ∧ w = w' by rw [← hpb]; exact FD.out _ c.hi w h))
      have d1 : decide ((a : Int) < 0) = false := decide_eq_false (by omega)
      have d2 : decide ((b : Int) ≤ (a : Int)) = false := decide_eq_false (by omega)
      have d3 : decide (b ≤ a) = false := decide_eq_false (by omega)
      have LD := Lib.hid (HL.out.kep HK.out)
      have hgl : gl < w3.heap.size := World.block_lt_of_cell? _ _ (qx 0 (by decide))
      have hgc : gc < w3.heap.size := World.block_lt_of_cell? _ _ (q 0 _ rfl)
      have hgw := gg.size
      have i1 : (0 : Int) ≤ (a : Int) := by omega
      have i2 : (a : Int) < (na : Int) := by omega
      have i3 : (0 : Int) ≤ (b : Int) := by omega
      have i4 : (b : Int) < (na : Int) := by omega
      clear hpa hpb hac qx qy q hab
      by_cases hk0 : k = 0
      · have q2 : decide ((0 : Int) < (k : Int)) = false := decide_eq_false (by omega)
        have q3 : decide (0 < k) = false := decide_eq_false (by omega)
        clear hb hk0
        go_wp2_with (first | ((with_reducible refine (FA.out _ LD.out).mono ?_); rintro e w4 ⟨rfl, rfl⟩) | ((with_reducible refine (FB.out _ LD.out).mono ?_); rintro e w4 ⟨rfl, rfl⟩))
        refine wp_region_noPanic ?_
        refine wp_region_held_drew (S := (fun w' => w'.cell? ⟨gc, oc + k * 5, none⟩ = some (.int .u32 c.lo) ∧ w'.cell? ⟨gc, oc + k * 5 + 1, none⟩ = some (.int .u32 c.hi) ∧ w'.cell? ⟨gc, oc + k * 5 + 2, none⟩ = some (.int .i32 c.nx) ∧ w'.cell? ⟨gc, oc + k * 5 + 3, none⟩ = some (.int .i32 c.ny) ∧ w'.cell? ⟨gc, oc + k * 5 + 4, none⟩ = some (.int .i32 c.dp) ∧ w'.cell? ⟨gl, off + a * 10, none⟩ = some (.int .u32 x.k) ∧ w'.cell? ⟨gl, off + a * 10 + 1, none⟩ = some (.int .i32 x.r) ∧ w'.cell? ⟨gl, off + a * 10 + 2, none⟩ = some (.int .i32 x.ax) ∧ w'.cell? ⟨gl, off + a * 10 + 3, none⟩ = some (.int .i32 x.ay) ∧ w'.cell? ⟨gl, off + a * 10 + 4, none⟩ = some (.int .i32 x.m) ∧ w'.cell? ⟨gl, off + a * 10 + 5, none⟩ = some (.int .i32 x.o) ∧ w'.cell? ⟨gl, off + a * 10 + 6, none⟩ = some (.int .i32 x.px) ∧ w'.cell? ⟨gl, off + a * 10 + 7, none⟩ = some (.int .i32 x.py) ∧ w'.cell? ⟨gl, off + a * 10 + 8, none⟩ = some (.int .i32 x.vx) ∧ w'.cell? ⟨gl, off + a * 10 + 9, none⟩ = some (.int .i32 x.vy) ∧ w'.cell? ⟨gl, off + b * 10, none⟩ = some (.int .u32 y.k) ∧ w'.cell? ⟨gl, off + b * 10 + 1, none⟩ = some (.int .i32 y.r) ∧ w'.cell? ⟨gl, off + b * 10 + 2, none⟩ = some (.int .i32 y.ax) ∧ w'.cell? ⟨gl, off + b * 10 + 3, none⟩ = some (.int .i32 y.ay) ∧ w'.cell? ⟨gl, off + b * 10 + 4, none⟩ = some (.int .i32 y.m) ∧ w'.cell? ⟨gl, off + b * 10 + 5, none⟩ = some (.int .i32 y.o) ∧ w'.cell? ⟨gl, off + b * 10 + 6, none⟩ = some (.int .i32 y.px) ∧ w'.cell? ⟨gl, off + b * 10 + 7, none⟩ = some (.int .i32 y.py) ∧ w'.cell? ⟨gl, off + b * 10 + 8, none⟩ = some (.int .i32 y.vx) ∧ w'.cell? ⟨gl, off + b * 10 + 9, none⟩ = some (.int .i32 y.vy) ∧ Kep w3.heap.size w3 w')) (by kernel_rfl) (⟨by rw [World.cell?_drew]; exact t0, by rw [World.cell?_drew]; exact t1, by rw [World.cell?_drew]; exact t2, by rw [World.cell?_drew]; exact t3, by rw [World.cell?_drew]; exact t4, by rw [World.cell?_drew]; exact x0, by rw [World.cell?_drew]; exact x1, by rw [World.cell?_drew]; exact x2, by rw [World.cell?_drew]; exact x3, by rw [World.cell?_drew]; exact x4, by rw [World.cell?_drew]; exact x5, by rw [World.cell?_drew]; exact x6, by rw [World.cell?_drew]; exact x7, by rw [World.cell?_drew]; exact x8, by rw [World.cell?_drew]; exact x9, by rw [World.cell?_drew]; exact y0, by rw [World.cell?_drew]; exact y1, by rw [World.cell?_drew]; exact y2, by rw [World.cell?_drew]; exact y3, by rw [World.cell?_drew]; exact y4, by rw [World.cell?_drew]; exact y5, by rw [World.cell?_drew]; exact y6, by rw [World.cell?_drew]; exact y7, by rw [World.cell?_drew]; exact y8, by rw [World.cell?_drew]; exact y9, kep_drew gg⟩) (fun hH => ?_)
        refine rtk 0 (oi := ⟨some 51, .move (.tmp 8), _, _, _, none⟩) (v := ?_) rfl ?_ hH ?_
        rotate_left
        · (intro w hSw; (try dsimp only at hSw); go_simp; (try with_reducible rfl))
        refine rtk 1 (oi := ⟨some 52, .binOp .lss 3 (.tmp 51) (.const (Value.int IntKind.i64 0)) 3, _, _, _, none⟩) (v := ?_) rfl ?_ hH ?_
        rotate_left
        · (intro w hSw; (try dsimp only at hSw); go_simp; (try with_reducible rfl))
        refine rtk 2 (oi := ⟨some 53, .move (.tmp 52), _, _, _, none⟩) (v := ?_) rfl ?_ hH ?_
        rotate_left
        · (intro w hSw; (try dsimp only at hSw); go_simp; (try with_reducible rfl))
        try simp only [Act.put, List.setIfInBounds_toArray, List.set_cons_zero, List.set_cons_succ]
        refine rtk 3 (oi := ⟨some 54, .move (.tmp 9), _, _, _, some (2, false)⟩) (v := ?_) rfl ?_ hH ?_
        rotate_left
        · (intro w hSw; (try dsimp only at hSw); go_simp; (try with_reducible rfl))
        try simp only [Act.put, List.setIfInBounds_toArray, List.set_cons_zero, List.set_cons_succ]
        refine rtk 4 (oi := ⟨some 55, .move (.tmp 8), _, _, _, some (2, false)⟩) (v := ?_) rfl ?_ hH ?_
        rotate_left
        · (intro w hSw; (try dsimp only at hSw); go_simp; (try with_reducible rfl))
        try simp only [Act.put, List.setIfInBounds_toArray, List.set_cons_zero, List.set_cons_succ]
        refine rtk 5 (oi := ⟨some 56, .binOp .leq 3 (.tmp 54) (.tmp 55) 3, _, _, _, some (2, false)⟩) (v := ?_) rfl ?_ hH ?_
        rotate_left
        · (intro w hSw; (try dsimp only at hSw); go_simp; (try with_reducible rfl))
        refine rtk 6 (oi := ⟨some 57, .pick (.tmp 53) (.const (Value.bool true)) (.tmp 56), _, _, _, none⟩) (v := ?_) rfl ?_ hH ?_
        rotate_left
        · (intro w hSw; (try dsimp only at hSw); go_simp; (try with_reducible rfl))
        refine rtk 7 (oi := ⟨some 58, .move (.tmp 57), _, _, _, none⟩) (v := ?_) rfl ?_ hH ?_
        rotate_left
        · (intro w hSw; (try dsimp only at hSw); go_simp; (try with_reducible rfl))
        try simp only [Act.put, List.setIfInBounds_toArray, List.set_cons_zero, List.set_cons_succ]
        refine rtk 8 (oi := ⟨some 59, .move (.tmp 7), _, _, _, some (7, false)⟩) (v := ?_) rfl ?_ hH ?_
        rotate_left
        · (intro w hSw; (try dsimp only at hSw); go_simp; (try with_reducible rfl))
        try simp only [Act.put, List.setIfInBounds_toArray, List.set_cons_zero, List.set_cons_succ]
        refine rtk 9 (oi := ⟨some 60, .binOp .gtr 3 (.tmp 59) (.const (Value.int IntKind.i64 0)) 3, _, _, _, some (7, false)⟩) (v := ?_) rfl ?_ hH ?_
        rotate_left
        · (intro w hSw; (try dsimp only at hSw); go_simp; (try with_reducible rfl))
        try simp only [Act.put, List.setIfInBounds_toArray, List.set_cons_zero, List.set_cons_succ]
        refine rtk 10 (oi := ⟨some 61, .move (.tmp 60), _, _, _, some (7, false)⟩) (v := ?_) rfl ?_ hH ?_
        rotate_left
        · (intro w hSw; (try dsimp only at hSw); go_simp; (try with_reducible rfl))
        try simp only [Act.put, List.setIfInBounds_toArray, List.set_cons_zero, List.set_cons_succ]
        refine rtu 11 (oi := ⟨some 62, .move (.tmp 5), _, _, _, some (10, true)⟩) rfl hH ?_
        try simp only [Act.put, List.setIfInBounds_toArray, List.set_cons_zero, List.set_cons_succ]
        refine rtu 12 (oi := ⟨some 63, .move (.tmp 7), _, _, _, some (10, true)⟩) rfl hH ?_
        try simp only [Act.put, List.setIfInBounds_toArray, List.set_cons_zero, List.set_cons_succ]
        refine rtu 13 (oi := ⟨some 64, .binOp .sub 3 (.tmp 63) (.const (Value.int IntKind.i64 1)) 3, _, _, _, some (10, true)⟩) rfl hH ?_
        try simp only [Act.put, List.setIfInBounds_toArray, List.set_cons_zero, List.set_cons_succ]
        refine rtu 14 (oi := ⟨some 65, .indexAddr 23 (.tmp 62) (.tmp 64), _, _, _, some (10, true)⟩) rfl hH ?_
        try simp only [Act.put, List.setIfInBounds_toArray, List.set_cons_zero, List.set_cons_succ]
        refine rtu 15 (oi := ⟨some 66, .fieldAddr 35 (.tmp 65) 0, _, _, _, some (10, true)⟩) rfl hH ?_
        try simp only [Act.put, List.setIfInBounds_toArray, List.set_cons_zero, List.set_cons_succ]
        refine rtu 16 (oi := ⟨some 67, .load 31 (.tmp 66), _, _, _, some (10, true)⟩) rfl hH ?_
        try simp only [Act.put, List.setIfInBounds_toArray, List.set_cons_zero, List.set_cons_succ]
        refine rtu 17 (oi := ⟨some 68, .move (.tmp 5), _, _, _, some (10, true)⟩) rfl hH ?_
        try simp only [Act.put, List.setIfInBounds_toArray, List.set_cons_zero, List.set_cons_succ]
        refine rtu 18 (oi := ⟨some 69, .move (.tmp 7), _, _, _, some (10, true)⟩) rfl hH ?_
        try simp only [Act.put, List.setIfInBounds_toArray, List.set_cons_zero, List.set_cons_succ]
        refine rtu 19 (oi := ⟨some 70, .indexAddr 23 (.tmp 68) (.tmp 69), _, _, _, some (10, true)⟩) rfl hH ?_
        try simp only [Act.put, List.setIfInBounds_toArray, List.set_cons_zero, List.set_cons_succ]
        refine rtu 20 (oi := ⟨some 71, .fieldAddr 35 (.tmp 70) 0, _, _, _, some (10, true)⟩) rfl hH ?_
        try simp only [Act.put, List.setIfInBounds_toArray, List.set_cons_zero, List.set_cons_succ]
        refine rtu 21 (oi := ⟨some 72, .load 31 (.tmp 71), _, _, _, some (10, true)⟩) rfl hH ?_
        try simp only [Act.put, List.setIfInBounds_toArray, List.set_cons_zero, List.set_cons_succ]
        refine rtu 22 (oi := ⟨some 73, .call { callee := .value (.func 17), args := #[.tmp 67, .tmp 72], argTypes := #[31, 31] }, _, _, _, some (10, true)⟩) rfl hH ?_
        try simp only [Act.put, List.setIfInBounds_toArray, List.set_cons_zero, List.set_cons_succ]
        refine rtu 23 (oi := ⟨some 74, .unOp .not 4 (.tmp 73), _, _, _, some (10, true)⟩) rfl hH ?_
        try simp only [Act.put, List.setIfInBounds_toArray, List.set_cons_zero, List.set_cons_succ]
        refine rtk 24 (oi := ⟨some 75, .pick (.tmp 61) (.tmp 74) (.const (Value.bool false)), _, _, _, some (7, false)⟩) (v := ?_) rfl ?_ hH ?_
        rotate_left
        · (intro w hSw; (try dsimp only at hSw); go_simp; (try with_reducible rfl))
        refine rtk 25 (oi := ⟨some 76, .pick (.tmp 58) (.const (Value.bool true)) (.tmp 75), _, _, _, none⟩) (v := ?_) rfl ?_ hH ?_
        rotate_left
        · (intro w hSw; (try dsimp only at hSw); go_simp; (try with_reducible rfl))
        try simp only [Act.put, List.setIfInBounds_toArray, List.set_cons_zero, List.set_cons_succ]
        refine wpAnyH_done (by kernel_rfl) ?_ _
        refine NoPanic.normal ?_
        clear t0 t1 t2 t3 t4 x0 x1 x2 x3 x4 x5 x6 x7 x8 x9 y0 y1 y2 y3 y4 y5 y6 y7 y8 y9 gg
        obtain ⟨t0, t1, t2, t3, t4, x0, x1, x2, x3, x4, x5, x6, x7, x8, x9, y0, y1, y2, y3, y4, y5, y6, y7, y8, y9, gg⟩ := hH
        go_wp2_with fail
        obtain ⟨wq, hwq⟩ : ∃ z, z = wr.drew := ⟨_, rfl⟩
        rw [← hwq] at t0 t1 t2 t3 t4 x0 x1 x2 x3 x4 x5 x6 x7 x8 x9 y0 y1 y2 y3 y4 y5 y6 y7 y8 y9 gg ⊢
        clear hwq
        have HG := Lib.hid gg
        have hgw2 := gg.size
        clear gg
        have gg : Kep wq.heap.size wq wq := Kep.refl _ _
        go_cut [10, 11] (fun s10 s11 wx => ∃ b, s10 = .pointer (some ⟨b, 0, none⟩) ∧ s11 = .bool true ∧ ZC wx b [.int .u32 c.lo, .int .u32 c.hi, .int .i32 c.nx, .int .i32 c.ny, .int .i32 c.dp] ∧ (wx.cell? ⟨gc, oc + k * 5, none⟩ = some (.int .u32 c.lo) ∧ wx.cell? ⟨gc, oc + k * 5 + 1, none⟩ = some (.int .u32 c.hi) ∧ wx.cell? ⟨gc, oc + k * 5 + 2, none⟩ = some (.int .i32 c.nx) ∧ wx.cell? ⟨gc, oc + k * 5 + 3, none⟩ = some (.int .i32 c.ny) ∧ wx.cell? ⟨gc, oc + k * 5 + 4, none⟩ = some (.int .i32 c.dp)) ∧ Kep wq.heap.size wq wx)
        case first =>
          refine wp_region_noPanic ?_
          refine wp_region_held_drew (S := (fun w' => w'.cell? ⟨gl, off + a * 10, none⟩ = some (.int .u32 x.k) ∧ w'.cell? ⟨gl, off + a * 10 + 1, none⟩ = some (.int .i32 x.r) ∧ w'.cell? ⟨gl, off + a * 10 + 2, none⟩ = some (.int .i32 x.ax) ∧ w'.cell? ⟨gl, off + a * 10 + 3, none⟩ = some (.int .i32 x.ay) ∧ w'.cell? ⟨gl, off + a * 10 + 4, none⟩ = some (.int .i32 x.m) ∧ w'.cell? ⟨gl, off + a * 10 + 5, none⟩ = some (.int .i32 x.o) ∧ w'.cell? ⟨gl, off + a * 10 + 6, none⟩ = some (.int .i32 x.px) ∧ w'.cell? ⟨gl, off + a * 10 + 7, none⟩ = some (.int .i32 x.py) ∧ w'.cell? ⟨gl, off + a * 10 + 8, none⟩ = some (.int .i32 x.vx) ∧ w'.cell? ⟨gl, off + a * 10 + 9, none⟩ = some (.int .i32 x.vy) ∧ w'.cell? ⟨gl, off + b * 10, none⟩ = some (.int .u32 y.k) ∧ w'.cell? ⟨gl, off + b * 10 + 1, none⟩ = some (.int .i32 y.r) ∧ w'.cell? ⟨gl, off + b * 10 + 2, none⟩ = some (.int .i32 y.ax) ∧ w'.cell? ⟨gl, off + b * 10 + 3, none⟩ = some (.int .i32 y.ay) ∧ w'.cell? ⟨gl, off + b * 10 + 4, none⟩ = some (.int .i32 y.m) ∧ w'.cell? ⟨gl, off + b * 10 + 5, none⟩ = some (.int .i32 y.o) ∧ w'.cell? ⟨gl, off + b * 10 + 6, none⟩ = some (.int .i32 y.px) ∧ w'.cell? ⟨gl, off + b * 10 + 7, none⟩ = some (.int .i32 y.py) ∧ w'.cell? ⟨gl, off + b * 10 + 8, none⟩ = some (.int .i32 y.vx) ∧ w'.cell? ⟨gl, off + b * 10 + 9, none⟩ = some (.int .i32 y.vy) ∧ w'.cell? ⟨gc, oc + k * 5, none⟩ = some (.int .u32 c.lo) ∧ w'.cell? ⟨gc, oc + k * 5 + 1, none⟩ = some (.int .u32 c.hi) ∧ w'.cell? ⟨gc, oc + k * 5 + 2, none⟩ = some (.int .i32 c.nx) ∧ w'.cell? ⟨gc, oc + k * 5 + 3, none⟩ = some (.int .i32 c.ny) ∧ w'.cell? ⟨gc, oc + k * 5 + 4, none⟩ = some (.int .i32 c.dp) ∧ Kep wq.heap.size wq w')) (by kernel_rfl) (⟨by rw [World.cell?_drew]; exact x0, by rw [World.cell?_drew]; exact x1, by rw [World.cell?_drew]; exact x2, by rw [World.cell?_drew]; exact x3, by rw [World.cell?_drew]; exact x4, by rw [World.cell?_drew]; exact x5, by rw [World.cell?_drew]; exact x6, by rw [World.cell?_drew]; exact x7, by rw [World.cell?_drew]; exact x8, by rw [World.cell?_drew]; exact x9, by rw [World.cell?_drew]; exact y0, by rw [World.cell?_drew]; exact y1, by rw [World.cell?_drew]; exact y2, by rw [World.cell?_drew]; exact y3, by rw [World.cell?_drew]; exact y4, by rw [World.cell?_drew]; exact y5, by rw [World.cell?_drew]; exact y6, by rw [World.cell?_drew]; exact y7, by rw [World.cell?_drew]; exact y8, by rw [World.cell?_drew]; exact y9, by rw [World.cell?_drew]; exact t0, by rw [World.cell?_drew]; exact t1, by rw [World.cell?_drew]; exact t2, by rw [World.cell?_drew]; exact t3, by rw [World.cell?_drew]; exact t4, kep_drew gg⟩) (fun hH => ?_)
          refine rtk 0 (oi := ⟨some 78, .move (.tmp 3), _, _, _, none⟩) (v := ?_) rfl ?_ hH ?_
          rotate_left
          · (intro w hSw; (try dsimp only at hSw); go_simp; (try with_reducible rfl))
          refine rtk 1 (oi := ⟨some 79, .move (.tmp 8), _, _, _, none⟩) (v := ?_) rfl ?_ hH ?_
          rotate_left
          · (intro w hSw; (try dsimp only at hSw); go_simp; (try with_reducible rfl))
          refine rtk 2 (oi := ⟨some 80, .indexAddr 22 (.tmp 78) (.tmp 79), _, _, _, none⟩) (v := ?_) rfl ?_ hH ?_
          rotate_left
          · (intro w hSw; (try dsimp only at hSw); go_simp; (try with_reducible rfl))
          refine rtk 3 (oi := ⟨some 81, .load 46 (.tmp 80), _, _, _, none⟩) (v := ?_) rfl ?_ hH ?_
          rotate_left
          · (intro w hSw; (try dsimp only at hSw); go_simp; (try with_reducible rfl))
          refine rtk 4 (oi := ⟨some 82, .move (.tmp 3), _, _, _, none⟩) (v := ?_) rfl ?_ hH ?_
          rotate_left
          · (intro w hSw; (try dsimp only at hSw); go_simp; (try with_reducible rfl))
          refine rtk 5 (oi := ⟨some 83, .move (.tmp 9), _, _, _, none⟩) (v := ?_) rfl ?_ hH ?_
          rotate_left
          · (intro w hSw; (try dsimp only at hSw); go_simp; (try with_reducible rfl))
          refine rtk 6 (oi := ⟨some 84, .indexAddr 22 (.tmp 82) (.tmp 83), _, _, _, none⟩) (v := ?_) rfl ?_ hH ?_
          rotate_left
          · (intro w hSw; (try dsimp only at hSw); go_simp; (try with_reducible rfl))
          refine rtk 7 (oi := ⟨some 85, .load 46 (.tmp 84), _, _, _, none⟩) (v := ?_) rfl ?_ hH ?_
          rotate_left
          · (intro w hSw; (try dsimp only at hSw); go_simp; (try with_reducible rfl))
          try simp only [Act.put, List.setIfInBounds_toArray, List.set_cons_zero, List.set_cons_succ]
          refine wpAnyH_ready (rs := [8, 12]) (by kernel_rfl) (by simp) ?_
          refine AllReadyH.cons (o := ⟨some 86, .call { callee := .value (.func 18), args := #[.tmp 81, .tmp 85], argTypes := #[46, 46] }, _, _, _, none⟩) rfl (fun K hK => ?_) (AllReadyH.cons (o := ⟨some 10, .alloc 35, _, _, _, none⟩) rfl (fun K hK => ?_) AllReadyH.nil)
          ·
            go_simp
            (with_reducible refine (RO.out _).mono ?_); rintro e v12_1 ⟨rfl, g⟩
            refine hK.out _ _ (by (try dsimp only); (go_split_ands; exact ⟨Kep.all g (by assumption), Kep.all g (by assumption), Kep.all g (by assumption), Kep.all g (by assumption), Kep.all g (by assumption), Kep.all g (by assumption), Kep.all g (by assumption), Kep.all g (by assumption), Kep.all g (by assumption), Kep.all g (by assumption), Kep.all g (by assumption), Kep.all g (by assumption), Kep.all g (by assumption), Kep.all g (by assumption), Kep.all g (by assumption), Kep.all g (by assumption), Kep.all g (by assumption), Kep.all g (by assumption), Kep.all g (by assumption), Kep.all g (by assumption), Kep.all g (by assumption), Kep.all g (by assumption), Kep.all g (by assumption), Kep.all g (by assumption), Kep.all g (by assumption), kep_next (by assumption) g⟩)) (fun hH2 => ?_)
            clear hK K hH; have hH := hH2; clear hH2
            refine rtk 9 (oi := ⟨some 77, .move (.tmp 86), _, _, _, none⟩) (v := ?_) rfl ?_ hH ?_
            rotate_left
            · (intro w hSw; (try dsimp only at hSw); go_simp; (try with_reducible rfl))
            refine rtk 10 (oi := ⟨some 87, .extract (.tmp 77) 0, _, _, _, none⟩) (v := ?_) rfl ?_ hH ?_
            rotate_left
            · (intro w hSw; (try dsimp only at hSw); go_simp; (try with_reducible rfl))
            refine rtk 11 (oi := ⟨some 88, .extract (.tmp 77) 1, _, _, _, none⟩) (v := ?_) rfl ?_ hH ?_
            rotate_left
            · (intro w hSw; (try dsimp only at hSw); go_simp; (try with_reducible rfl))
            try simp only [Act.put, List.setIfInBounds_toArray, List.set_cons_zero, List.set_cons_succ]
            refine wpAnyH_ready (rs := [12]) (by kernel_rfl) (by simp) ?_
            refine AllReadyH.cons (o := ⟨some 10, .alloc 35, _, _, _, none⟩) rfl (fun K hK => ?_) AllReadyH.nil
            go_simp
            have z1 : ZC (World.alloc (v12_1) (.cells #[.int .u32 0, .int .u32 0, .int .i32 0, .int .i32 0, .int .i32 0] 35)) (v12_1).heap.size [.int .u32 0, .int .u32 0, .int .i32 0, .int .i32 0, .int .i32 0] := zc_new _ _ _
            have z1b : wq.heap.size ≤ (v12_1).heap.size := by obtain ⟨x0, x1, x2, x3, x4, x5, x6, x7, x8, x9, y0, y1, y2, y3, y4, y5, y6, y7, y8, y9, t0, t1, t2, t3, t4, gg⟩ := id hH; exact gg.size
            refine hK.out _ _ (by (try dsimp only); (go_split_ands; exact ⟨kma, kma, kma, kma, kma, kma, kma, kma, kma, kma, kma, kma, kma, kma, kma, kma, kma, kma, kma, kma, kma, kma, kma, kma, kma, kep_more (by assumption) _⟩)) (fun hH2 => ?_)
            try simp only [World.size_drew] at z1 z1b
            have hH_z1 := hH
            clear hK K hH; have hH := hH2; clear hH2
            try simp only [Act.put, List.setIfInBounds_toArray, List.set_cons_zero, List.set_cons_succ]
            refine wpAnyH_ready (rs := [13]) (by kernel_rfl) (by simp) ?_
            refine AllReadyH.cons (o := ⟨none, .store 35 (.tmp 10) (.tmp 87), _, _, _, none⟩) rfl (fun K hK => ?_) AllReadyH.nil
            obtain ⟨x0, x1, x2, x3, x4, x5, x6, x7, x8, x9, y0, y1, y2, y3, y4, y5, y6, y7, y8, y9, t0, t1, t2, t3, t4, gg⟩ := id hH
            have z1q0 := z1.i (i := 0) rfl; have z1f0 := z1.frz 0
            have z1q1 := z1.i (i := 1) rfl; have z1f1 := z1.frz 1
            have z1q2 := z1.i (i := 2) rfl; have z1f2 := z1.frz 2
            have z1q3 := z1.i (i := 3) rfl; have z1f3 := z1.frz 3
            have z1q4 := z1.i (i := 4) rfl; have z1f4 := z1.frz 4
            go_simp
            have z1' : ZC (World.alloc (v12_1) (.cells #[.int .u32 c.lo, .int .u32 c.hi, .int .i32 c.nx, .int .i32 c.ny, .int .i32 c.dp] 35)) (v12_1).heap.size [.int .u32 c.lo, .int .u32 c.hi, .int .i32 c.nx, .int .i32 c.ny, .int .i32 c.dp] := zc_new _ _ _
            try simp only [World.size_drew] at z1'
            clear z1; have z1 := z1'; clear z1'
            refine hK.out _ _ (by (try dsimp only); obtain ⟨x0, x1, x2, x3, x4, x5, x6, x7, x8, x9, y0, y1, y2, y3, y4, y5, y6, y7, y8, y9, t0, t1, t2, t3, t4, gg⟩ := id hH_z1; exact ⟨Kep.all (kep_more (Kep.refl _ _) _) x0, Kep.all (kep_more (Kep.refl _ _) _) x1, Kep.all (kep_more (Kep.refl _ _) _) x2, Kep.all (kep_more (Kep.refl _ _) _) x3, Kep.all (kep_more (Kep.refl _ _) _) x4, Kep.all (kep_more (Kep.refl _ _) _) x5, Kep.all (kep_more (Kep.refl _ _) _) x6, Kep.all (kep_more (Kep.refl _ _) _) x7, Kep.all (kep_more (Kep.refl _ _) _) x8, Kep.all (kep_more (Kep.refl _ _) _) x9, Kep.all (kep_more (Kep.refl _ _) _) y0, Kep.all (kep_more (Kep.refl _ _) _) y1, Kep.all (kep_more (Kep.refl _ _) _) y2, Kep.all (kep_more (Kep.refl _ _) _) y3, Kep.all (kep_more (Kep.refl _ _) _) y4, Kep.all (kep_more (Kep.refl _ _) _) y5, Kep.all (kep_more (Kep.refl _ _) _) y6, Kep.all (kep_more (Kep.refl _ _) _) y7, Kep.all (kep_more (Kep.refl _ _) _) y8, Kep.all (kep_more (Kep.refl _ _) _) y9, Kep.all (kep_more (Kep.refl _ _) _) t0, Kep.all (kep_more (Kep.refl _ _) _) t1, Kep.all (kep_more (Kep.refl _ _) _) t2, Kep.all (kep_more (Kep.refl _ _) _) t3, Kep.all (kep_more (Kep.refl _ _) _) t4, kep_more gg _⟩) (fun hH2 => ?_)
            clear hH_z1
            clear hK K hH x0 x1 x2 x3 x4 x5 x6 x7 x8 x9 y0 y1 y2 y3 y4 y5 y6 y7 y8 y9 t0 t1 t2 t3 t4 gg z1q0 z1f0 z1q1 z1f1 z1q2 z1f2 z1q3 z1f3 z1q4 z1f4; have hH := hH2; clear hH2
            refine rtk 14 (oi := ⟨some 11, .assign (.tmp 88), _, _, _, none⟩) (v := ?_) rfl ?_ hH ?_
            rotate_left
            · (intro w hSw; (try dsimp only at hSw); go_simp; (try with_reducible rfl))
            try simp only [Act.put, List.setIfInBounds_toArray, List.set_cons_zero, List.set_cons_succ]
            refine wpAnyH_done (by kernel_rfl) ?_ _
            refine NoPanic.normal ?_
            obtain ⟨x0, x1, x2, x3, x4, x5, x6, x7, x8, x9, y0, y1, y2, y3, y4, y5, y6, y7, y8, y9, t0, t1, t2, t3, t4, gg⟩ := hH
            go_wp2_with fail
            go_meet
            exact ⟨_, rfl, rfl, z1, ⟨t0, t1, t2, t3, t4⟩, gg⟩
          ·
            go_simp
            have z1 : ZC (World.alloc (wq.drew) (.cells #[.int .u32 0, .int .u32 0, .int .i32 0, .int .i32 0, .int .i32 0] 35)) (wq.drew).heap.size [.int .u32 0, .int .u32 0, .int .i32 0, .int .i32 0, .int .i32 0] := zc_new _ _ _
            have z1b : wq.heap.size ≤ (wq.drew).heap.size := by obtain ⟨x0, x1, x2, x3, x4, x5, x6, x7, x8, x9, y0, y1, y2, y3, y4, y5, y6, y7, y8, y9, t0, t1, t2, t3, t4, gg⟩ := id hH; exact gg.size
            refine hK.out _ _ (by (try dsimp only); (go_split_ands; exact ⟨kma, kma, kma, kma, kma, kma, kma, kma, kma, kma, kma, kma, kma, kma, kma, kma, kma, kma, kma, kma, kma, kma, kma, kma, kma, kep_more (by assumption) _⟩)) (fun hH2 => ?_)
            try simp only [World.size_drew] at z1 z1b
            have hH_z1 := hH
            clear hK K hH; have hH := hH2; clear hH2
            try simp only [Act.put, List.setIfInBounds_toArray, List.set_cons_zero, List.set_cons_succ]
            refine wpAnyH_ready (rs := [8]) (by kernel_rfl) (by simp) ?_
            refine AllReadyH.cons (o := ⟨some 86, .call { callee := .value (.func 18), args := #[.tmp 81, .tmp 85], argTypes := #[46, 46] }, _, _, _, none⟩) rfl (fun K hK => ?_) AllReadyH.nil
            go_simp
            (with_reducible refine (RO.out _).mono ?_); rintro e v12_2 ⟨rfl, g⟩
            replace z1 := z1.kep g
            refine hK.out _ _ (by (try dsimp only); (go_split_ands; exact ⟨Kep.all g (by assumption), Kep.all g (by assumption), Kep.all g (by assumption), Kep.all g (by assumption), Kep.all g (by assumption), Kep.all g (by assumption), Kep.all g (by assumption), Kep.all g (by assumption), Kep.all g (by assumption), Kep.all g (by assumption), Kep.all g (by assumption), Kep.all g (by assumption), Kep.all g (by assumption), Kep.all g (by assumption), Kep.all g (by assumption), Kep.all g (by assumption), Kep.all g (by assumption), Kep.all g (by assumption), Kep.all g (by assumption), Kep.all g (by assumption), Kep.all g (by assumption), Kep.all g (by assumption), Kep.all g (by assumption), Kep.all g (by assumption), Kep.all g (by assumption), kep_next (by assumption) g⟩)) (fun hH2 => ?_)
            clear hK K hH; have hH := hH2; clear hH2
            refine rtk 9 (oi := ⟨some 77, .move (.tmp 86), _, _, _, none⟩) (v := ?_) rfl ?_ hH ?_
            rotate_left
            · (intro w hSw; (try dsimp only at hSw); go_simp; (try with_reducible rfl))
            refine rtk 10 (oi := ⟨some 87, .extract (.tmp 77) 0, _, _, _, none⟩) (v := ?_) rfl ?_ hH ?_
            rotate_left
            · (intro w hSw; (try dsimp only at hSw); go_simp; (try with_reducible rfl))
            refine rtk 11 (oi := ⟨some 88, .extract (.tmp 77) 1, _, _, _, none⟩) (v := ?_) rfl ?_ hH ?_
            rotate_left
            · (intro w hSw; (try dsimp only at hSw); go_simp; (try with_reducible rfl))
            try simp only [Act.put, List.setIfInBounds_toArray, List.set_cons_zero, List.set_cons_succ]
            refine wpAnyH_ready (rs := [13]) (by kernel_rfl) (by simp) ?_
            refine AllReadyH.cons (o := ⟨none, .store 35 (.tmp 10) (.tmp 87), _, _, _, none⟩) rfl (fun K hK => ?_) AllReadyH.nil
            obtain ⟨x0, x1, x2, x3, x4, x5, x6, x7, x8, x9, y0, y1, y2, y3, y4, y5, y6, y7, y8, y9, t0, t1, t2, t3, t4, gg⟩ := id hH
            have z1q0 := z1.i (i := 0) rfl; have z1f0 := z1.frz 0
            have z1q1 := z1.i (i := 1) rfl; have z1f1 := z1.frz 1
            have z1q2 := z1.i (i := 2) rfl; have z1f2 := z1.frz 2
            have z1q3 := z1.i (i := 3) rfl; have z1f3 := z1.frz 3
            have z1q4 := z1.i (i := 4) rfl; have z1f4 := z1.frz 4
            go_simp
            have hst : (fun w' => w'.cell? ⟨gl, off + a * 10, none⟩ = some (.int .u32 x.k) ∧ w'.cell? ⟨gl, off + a * 10 + 1, none⟩ = some (.int .i32 x.r) ∧ w'.cell? ⟨gl, off + a * 10 + 2, none⟩ = some (.int .i32 x.ax) ∧ w'.cell? ⟨gl, off + a * 10 + 3, none⟩ = some (.int .i32 x.ay) ∧ w'.cell? ⟨gl, off + a * 10 + 4, none⟩ = some (.int .i32 x.m) ∧ w'.cell? ⟨gl, off + a * 10 + 5, none⟩ = some (.int .i32 x.o) ∧ w'.cell? ⟨gl, off + a * 10 + 6, none⟩ = some (.int .i32 x.px) ∧ w'.cell? ⟨gl, off + a * 10 + 7, none⟩ = some (.int .i32 x.py) ∧ w'.cell? ⟨gl, off + a * 10 + 8, none⟩ = some (.int .i32 x.vx) ∧ w'.cell? ⟨gl, off + a * 10 + 9, none⟩ = some (.int .i32 x.vy) ∧ w'.cell? ⟨gl, off + b * 10, none⟩ = some (.int .u32 y.k) ∧ w'.cell? ⟨gl, off + b * 10 + 1, none⟩ = some (.int .i32 y.r) ∧ w'.cell? ⟨gl, off + b * 10 + 2, none⟩ = some (.int .i32 y.ax) ∧ w'.cell? ⟨gl, off + b * 10 + 3, none⟩ = some (.int .i32 y.ay) ∧ w'.cell? ⟨gl, off + b * 10 + 4, none⟩ = some (.int .i32 y.m) ∧ w'.cell? ⟨gl, off + b * 10 + 5, none⟩ = some (.int .i32 y.o) ∧ w'.cell? ⟨gl, off + b * 10 + 6, none⟩ = some (.int .i32 y.px) ∧ w'.cell? ⟨gl, off + b * 10 + 7, none⟩ = some (.int .i32 y.py) ∧ w'.cell? ⟨gl, off + b * 10 + 8, none⟩ = some (.int .i32 y.vx) ∧ w'.cell? ⟨gl, off + b * 10 + 9, none⟩ = some (.int .i32 y.vy) ∧ w'.cell? ⟨gc, oc + k * 5, none⟩ = some (.int .u32 c.lo) ∧ w'.cell? ⟨gc, oc + k * 5 + 1, none⟩ = some (.int .u32 c.hi) ∧ w'.cell? ⟨gc, oc + k * 5 + 2, none⟩ = some (.int .i32 c.nx) ∧ w'.cell? ⟨gc, oc + k * 5 + 3, none⟩ = some (.int .i32 c.ny) ∧ w'.cell? ⟨gc, oc + k * 5 + 4, none⟩ = some (.int .i32 c.dp) ∧ Kep wq.heap.size wq w') (setAll (v12_2) ((wq).heap.size) 0 [.int .u32 c.lo, .int .u32 c.hi, .int .i32 c.nx, .int .i32 c.ny, .int .i32 c.dp]) := ⟨setAll_far _ _ _ _ (by first | omega | (simp; done) | (simp; omega)) x0, setAll_far _ _ _ _ (by first | omega | (simp; done) | (simp; omega)) x1, setAll_far _ _ _ _ (by first | omega | (simp; done) | (simp; omega)) x2, setAll_far _ _ _ _ (by first | omega | (simp; done) | (simp; omega)) x3, setAll_far _ _ _ _ (by first | omega | (simp; done) | (simp; omega)) x4, setAll_far _ _ _ _ (by first | omega | (simp; done) | (simp; omega)) x5, setAll_far _ _ _ _ (by first | omega | (simp; done) | (simp; omega)) x6, setAll_far _ _ _ _ (by first | omega | (simp; done) | (simp; omega)) x7, setAll_far _ _ _ _ (by first | omega | (simp; done) | (simp; omega)) x8, setAll_far _ _ _ _ (by first | omega | (simp; done) | (simp; omega)) x9, setAll_far _ _ _ _ (by first | omega | (simp; done) | (simp; omega)) y0, setAll_far _ _ _ _ (by first | omega | (simp; done) | (simp; omega)) y1, setAll_far _ _ _ _ (by first | omega | (simp; done) | (simp; omega)) y2, setAll_far _ _ _ _ (by first | omega | (simp; done) | (simp; omega)) y3, setAll_far _ _ _ _ (by first | omega | (simp; done) | (simp; omega)) y4, setAll_far _ _ _ _ (by first | omega | (simp; done) | (simp; omega)) y5, setAll_far _ _ _ _ (by first | omega | (simp; done) | (simp; omega)) y6, setAll_far _ _ _ _ (by first | omega | (simp; done) | (simp; omega)) y7, setAll_far _ _ _ _ (by first | omega | (simp; done) | (simp; omega)) y8, setAll_far _ _ _ _ (by first | omega | (simp; done) | (simp; omega)) y9, setAll_far _ _ _ _ (by first | omega | (simp; done) | (simp; omega)) t0, setAll_far _ _ _ _ (by first | omega | (simp; done) | (simp; omega)) t1, setAll_far _ _ _ _ (by first | omega | (simp; done) | (simp; omega)) t2, setAll_far _ _ _ _ (by first | omega | (simp; done) | (simp; omega)) t3, setAll_far _ _ _ _ (by first | omega | (simp; done) | (simp; omega)) t4, kep_setAll (by first | omega | (have := gg.size; simp at *; omega)) _ _ gg⟩
            replace z1 := z1.set [.int .u32 c.lo, .int .u32 c.hi, .int .i32 c.nx, .int .i32 c.ny, .int .i32 c.dp] (by simp)
            simp only [setAll, Nat.zero_add, Nat.reduceAdd] at hst z1
            refine hK.out _ _ hst (fun hH2 => ?_)
            clear hst
            clear hK K hH x0 x1 x2 x3 x4 x5 x6 x7 x8 x9 y0 y1 y2 y3 y4 y5 y6 y7 y8 y9 t0 t1 t2 t3 t4 gg z1q0 z1f0 z1q1 z1f1 z1q2 z1f2 z1q3 z1f3 z1q4 z1f4; have hH := hH2; clear hH2
            refine rtk 14 (oi := ⟨some 11, .assign (.tmp 88), _, _, _, none⟩) (v := ?_) rfl ?_ hH ?_
            rotate_left
            · (intro w hSw; (try dsimp only at hSw); go_simp; (try with_reducible rfl))
            try simp only [Act.put, List.setIfInBounds_toArray, List.set_cons_zero, List.set_cons_succ]
            refine wpAnyH_done (by kernel_rfl) ?_ _
            refine NoPanic.normal ?_
            obtain ⟨x0, x1, x2, x3, x4, x5, x6, x7, x8, x9, y0, y1, y2, y3, y4, y5, y6, y7, y8, y9, t0, t1, t2, t3, t4, gg⟩ := hH
            go_wp2_with fail
            go_meet
            exact ⟨_, rfl, rfl, z1, ⟨t0, t1, t2, t3, t4⟩, gg⟩
        case rest =>
          obtain ⟨u, rfl, rfl, zc, ⟨t0, t1, t2, t3, t4⟩, gc2⟩ := hcut
          have y5 := zc.i (i := 0) rfl
          have y6 := zc.i (i := 1) rfl
          have y7 := zc.i (i := 2) rfl
          have y8 := zc.i (i := 3) rfl
          have y9 := zc.i (i := 4) rfl
          have vne := fun w => ct_ncmp c.lo c.hi c.nx c.ny c.dp w
          have gg := HG.out.trans (gc2.mono hgw2)
          clear zc gc2
          go_wp2_with fail
          go_quiet (fail)
          go_wp2_with fail
          go_roundw
          case rel => exact ⟨k + 1, by omega, by go_num, Lib.hid (by repeat first | exact gg | refine Kep.drew ?_ | refine kep_drewN ?_ _)⟩
          case measure => simp [RowKit.intOf]; omega

      · have q2 : decide ((0 : Int) < (k : Int)) = true := decide_eq_true (by omega)
        have q3 : decide (0 < k) = true := decide_eq_true (by omega)
        obtain ⟨k1, hk1⟩ : ∃ k1, k = k1 + 1 := ⟨k - 1, by omega⟩
        have e1 : wrap64 ((k : Int) - 1) = (k1 : Int) := by unfold wrap64; omega
        have e2 : IntKind.i64.wrap ((k : Int) - 1) = (k1 : Int) := by rw [IntKind.wrap_i64]; omega
        have l1 : k1 < nc := by omega
        have hb1 : C[k1]? = some (C[k1]'(by rw [HNC.out]; exact l1)) := List.getElem?_eq_getElem _
        generalize C[k1]'(by rw [HNC.out]; exact l1) = c1 at hb1
        obtain ⟨_, _, he, q'⟩ := HC.out k1 c1 hb1
        injection he with he
        injection he with h1 h2
        subst h1 h2
        have s0 : wr.cell? ⟨gc, oc + k1 * 5, none⟩ = some (.int .u32 c1.lo) := gg.all (q' 0 _ rfl)
        have s1 : wr.cell? ⟨gc, oc + k1 * 5 + 1, none⟩ = some (.int .u32 c1.hi) := gg.all (q' 1 _ rfl)
        have s2 : wr.cell? ⟨gc, oc + k1 * 5 + 2, none⟩ = some (.int .i32 c1.nx) := gg.all (q' 2 _ rfl)
        have s3 : wr.cell? ⟨gc, oc + k1 * 5 + 3, none⟩ = some (.int .i32 c1.ny) := gg.all (q' 3 _ rfl)
        have s4 : wr.cell? ⟨gc, oc + k1 * 5 + 4, none⟩ = some (.int .i32 c1.dp) := gg.all (q' 4 _ rfl)
        have LS := Lib.hid (rls c1.lo c1.hi c.lo c.hi true (HM2.out k1 _ _ hb1 (by rw [← hk1]; exact hb)))
        clear hb hk0 hb1 q' hk1
        go_wp2_with (first | ((with_reducible refine (FA.out _ LD.out).mono ?_); rintro e w4 ⟨rfl, rfl⟩) | ((with_reducible refine (FB.out _ LD.out).mono ?_); rintro e w4 ⟨rfl, rfl⟩))
        refine wp_region_noPanic ?_
        refine wp_region_held_drew (S := (fun w' => w'.cell? ⟨gc, oc + k * 5, none⟩ = some (.int .u32 c.lo) ∧ w'.cell? ⟨gc, oc + k * 5 + 1, none⟩ = some (.int .u32 c.hi) ∧ w'.cell? ⟨gc, oc + k * 5 + 2, none⟩ = some (.int .i32 c.nx) ∧ w'.cell? ⟨gc, oc + k * 5 + 3, none⟩ = some (.int .i32 c.ny) ∧ w'.cell? ⟨gc, oc + k * 5 + 4, none⟩ = some (.int .i32 c.dp) ∧ w'.cell? ⟨gc, oc + k1 * 5, none⟩ = some (.int .u32 c1.lo) ∧ w'.cell? ⟨gc, oc + k1 * 5 + 1, none⟩ = some (.int .u32 c1.hi) ∧ w'.cell? ⟨gc, oc + k1 * 5 + 2, none⟩ = some (.int .i32 c1.nx) ∧ w'.cell? ⟨gc, oc + k1 * 5 + 3, none⟩ = some (.int .i32 c1.ny) ∧ w'.cell? ⟨gc, oc + k1 * 5 + 4, none⟩ = some (.int .i32 c1.dp) ∧ w'.cell? ⟨gl, off + a * 10, none⟩ = some (.int .u32 x.k) ∧ w'.cell? ⟨gl, off + a * 10 + 1, none⟩ = some (.int .i32 x.r) ∧ w'.cell? ⟨gl, off + a * 10 + 2, none⟩ = some (.int .i32 x.ax) ∧ w'.cell? ⟨gl, off + a * 10 + 3, none⟩ = some (.int .i32 x.ay) ∧ w'.cell? ⟨gl, off + a * 10 + 4, none⟩ = some (.int .i32 x.m) ∧ w'.cell? ⟨gl, off + a * 10 + 5, none⟩ = some (.int .i32 x.o) ∧ w'.cell? ⟨gl, off + a * 10 + 6, none⟩ = some (.int .i32 x.px) ∧ w'.cell? ⟨gl, off + a * 10 + 7, none⟩ = some (.int .i32 x.py) ∧ w'.cell? ⟨gl, off + a * 10 + 8, none⟩ = some (.int .i32 x.vx) ∧ w'.cell? ⟨gl, off + a * 10 + 9, none⟩ = some (.int .i32 x.vy) ∧ w'.cell? ⟨gl, off + b * 10, none⟩ = some (.int .u32 y.k) ∧ w'.cell? ⟨gl, off + b * 10 + 1, none⟩ = some (.int .i32 y.r) ∧ w'.cell? ⟨gl, off + b * 10 + 2, none⟩ = some (.int .i32 y.ax) ∧ w'.cell? ⟨gl, off + b * 10 + 3, none⟩ = some (.int .i32 y.ay) ∧ w'.cell? ⟨gl, off + b * 10 + 4, none⟩ = some (.int .i32 y.m) ∧ w'.cell? ⟨gl, off + b * 10 + 5, none⟩ = some (.int .i32 y.o) ∧ w'.cell? ⟨gl, off + b * 10 + 6, none⟩ = some (.int .i32 y.px) ∧ w'.cell? ⟨gl, off + b * 10 + 7, none⟩ = some (.int .i32 y.py) ∧ w'.cell? ⟨gl, off + b * 10 + 8, none⟩ = some (.int .i32 y.vx) ∧ w'.cell? ⟨gl, off + b * 10 + 9, none⟩ = some (.int .i32 y.vy) ∧ Kep w3.heap.size w3 w')) (by kernel_rfl) (⟨by rw [World.cell?_drew]; exact t0, by rw [World.cell?_drew]; exact t1, by rw [World.cell?_drew]; exact t2, by rw [World.cell?_drew]; exact t3, by rw [World.cell?_drew]; exact t4, by rw [World.cell?_drew]; exact s0, by rw [World.cell?_drew]; exact s1, by rw [World.cell?_drew]; exact s2, by rw [World.cell?_drew]; exact s3, by rw [World.cell?_drew]; exact s4, by rw [World.cell?_drew]; exact x0, by rw [World.cell?_drew]; exact x1, by rw [World.cell?_drew]; exact x2, by rw [World.cell?_drew]; exact x3, by rw [World.cell?_drew]; exact x4, by rw [World.cell?_drew]; exact x5, by rw [World.cell?_drew]; exact x6, by rw [World.cell?_drew]; exact x7, by rw [World.cell?_drew]; exact x8, by rw [World.cell?_drew]; exact x9, by rw [World.cell?_drew]; exact y0, by rw [World.cell?_drew]; exact y1, by rw [World.cell?_drew]; exact y2, by rw [World.cell?_drew]; exact y3, by rw [World.cell?_drew]; exact y4, by rw [World.cell?_drew]; exact y5, by rw [World.cell?_drew]; exact y6, by rw [World.cell?_drew]; exact y7, by rw [World.cell?_drew]; exact y8, by rw [World.cell?_drew]; exact y9, kep_drew gg⟩) (fun hH => ?_)
        refine rtk 0 (oi := ⟨some 51, .move (.tmp 8), _, _, _, none⟩) (v := ?_) rfl ?_ hH ?_
        rotate_left
        · (intro w hSw; (try dsimp only at hSw); go_simp; (try with_reducible rfl))
        refine rtk 1 (oi := ⟨some 52, .binOp .lss 3 (.tmp 51) (.const (Value.int IntKind.i64 0)) 3, _, _, _, none⟩) (v := ?_) rfl ?_ hH ?_
        rotate_left
        · (intro w hSw; (try dsimp only at hSw); go_simp; (try with_reducible rfl))
        refine rtk 2 (oi := ⟨some 53, .move (.tmp 52), _, _, _, none⟩) (v := ?_) rfl ?_ hH ?_
        rotate_left
        · (intro w hSw; (try dsimp only at hSw); go_simp; (try with_reducible rfl))
        try simp only [Act.put, List.setIfInBounds_toArray, List.set_cons_zero, List.set_cons_succ]
        refine rtk 3 (oi := ⟨some 54, .move (.tmp 9), _, _, _, some (2, false)⟩) (v := ?_) rfl ?_ hH ?_
        rotate_left
        · (intro w hSw; (try dsimp only at hSw); go_simp; (try with_reducible rfl))
        try simp only [Act.put, List.setIfInBounds_toArray, List.set_cons_zero, List.set_cons_succ]
        refine rtk 4 (oi := ⟨some 55, .move (.tmp 8), _, _, _, some (2, false)⟩) (v := ?_) rfl ?_ hH ?_
        rotate_left
        · (intro w hSw; (try dsimp only at hSw); go_simp; (try with_reducible rfl))
        try simp only [Act.put, List.setIfInBounds_toArray, List.set_cons_zero, List.set_cons_succ]
        refine rtk 5 (oi := ⟨some 56, .binOp .leq 3 (.tmp 54) (.tmp 55) 3, _, _, _, some (2, false)⟩) (v := ?_) rfl ?_ hH ?_
        rotate_left
        · (intro w hSw; (try dsimp only at hSw); go_simp; (try with_reducible rfl))
        refine rtk 6 (oi := ⟨some 57, .pick (.tmp 53) (.const (Value.bool true)) (.tmp 56), _, _, _, none⟩) (v := ?_) rfl ?_ hH ?_
        rotate_left
        · (intro w hSw; (try dsimp only at hSw); go_simp; (try with_reducible rfl))
        refine rtk 7 (oi := ⟨some 58, .move (.tmp 57), _, _, _, none⟩) (v := ?_) rfl ?_ hH ?_
        rotate_left
        · (intro w hSw; (try dsimp only at hSw); go_simp; (try with_reducible rfl))
        try simp only [Act.put, List.setIfInBounds_toArray, List.set_cons_zero, List.set_cons_succ]
        refine rtk 8 (oi := ⟨some 59, .move (.tmp 7), _, _, _, some (7, false)⟩) (v := ?_) rfl ?_ hH ?_
        rotate_left
        · (intro w hSw; (try dsimp only at hSw); go_simp; (try with_reducible rfl))
        try simp only [Act.put, List.setIfInBounds_toArray, List.set_cons_zero, List.set_cons_succ]
        refine rtk 9 (oi := ⟨some 60, .binOp .gtr 3 (.tmp 59) (.const (Value.int IntKind.i64 0)) 3, _, _, _, some (7, false)⟩) (v := ?_) rfl ?_ hH ?_
        rotate_left
        · (intro w hSw; (try dsimp only at hSw); go_simp; (try with_reducible rfl))
        try simp only [Act.put, List.setIfInBounds_toArray, List.set_cons_zero, List.set_cons_succ]
        refine rtk 10 (oi := ⟨some 61, .move (.tmp 60), _, _, _, some (7, false)⟩) (v := ?_) rfl ?_ hH ?_
        rotate_left
        · (intro w hSw; (try dsimp only at hSw); go_simp; (try with_reducible rfl))
        try simp only [Act.put, List.setIfInBounds_toArray, List.set_cons_zero, List.set_cons_succ]
        refine rtk 11 (oi := ⟨some 62, .move (.tmp 5), _, _, _, some (10, true)⟩) (v := ?_) rfl ?_ hH ?_
        rotate_left
        · (intro w hSw; (try dsimp only at hSw); go_simp; (try with_reducible rfl))
        try simp only [Act.put, List.setIfInBounds_toArray, List.set_cons_zero, List.set_cons_succ]
        refine rtk 12 (oi := ⟨some 63, .move (.tmp 7), _, _, _, some (10, true)⟩) (v := ?_) rfl ?_ hH ?_
        rotate_left
        · (intro w hSw; (try dsimp only at hSw); go_simp; (try with_reducible rfl))
        try simp only [Act.put, List.setIfInBounds_toArray, List.set_cons_zero, List.set_cons_succ]
        refine rtk 13 (oi := ⟨some 64, .binOp .sub 3 (.tmp 63) (.const (Value.int IntKind.i64 1)) 3, _, _, _, some (10, true)⟩) (v := ?_) rfl ?_ hH ?_
        rotate_left
        · (intro w hSw; (try dsimp only at hSw); go_simp; (try with_reducible rfl))
        try simp only [Act.put, List.setIfInBounds_toArray, List.set_cons_zero, List.set_cons_succ]
        refine rtk 14 (oi := ⟨some 65, .indexAddr 23 (.tmp 62) (.tmp 64), _, _, _, some (10, true)⟩) (v := ?_) rfl ?_ hH ?_
        rotate_left
        · (intro w hSw; (try dsimp only at hSw); go_simp; (try with_reducible rfl))
        try simp only [Act.put, List.setIfInBounds_toArray, List.set_cons_zero, List.set_cons_succ]
        refine rtk 15 (oi := ⟨some 66, .fieldAddr 35 (.tmp 65) 0, _, _, _, some (10, true)⟩) (v := ?_) rfl ?_ hH ?_
        rotate_left
        · (intro w hSw; (try dsimp only at hSw); go_simp; (try with_reducible rfl))
        try simp only [Act.put, List.setIfInBounds_toArray, List.set_cons_zero, List.set_cons_succ]
        refine rtk 16 (oi := ⟨some 67, .load 31 (.tmp 66), _, _, _, some (10, true)⟩) (v := ?_) rfl ?_ hH ?_
        rotate_left
        · (intro w hSw; (try dsimp only at hSw); go_simp; (try with_reducible rfl))
        try simp only [Act.put, List.setIfInBounds_toArray, List.set_cons_zero, List.set_cons_succ]
        refine rtk 17 (oi := ⟨some 68, .move (.tmp 5), _, _, _, some (10, true)⟩) (v := ?_) rfl ?_ hH ?_
        rotate_left
        · (intro w hSw; (try dsimp only at hSw); go_simp; (try with_reducible rfl))
        try simp only [Act.put, List.setIfInBounds_toArray, List.set_cons_zero, List.set_cons_succ]
        refine rtk 18 (oi := ⟨some 69, .move (.tmp 7), _, _, _, some (10, true)⟩) (v := ?_) rfl ?_ hH ?_
        rotate_left
        · (intro w hSw; (try dsimp only at hSw); go_simp; (try with_reducible rfl))
        try simp only [Act.put, List.setIfInBounds_toArray, List.set_cons_zero, List.set_cons_succ]
        refine rtk 19 (oi := ⟨some 70, .indexAddr 23 (.tmp 68) (.tmp 69), _, _, _, some (10, true)⟩) (v := ?_) rfl ?_ hH ?_
        rotate_left
        · (intro w hSw; (try dsimp only at hSw); go_simp; (try with_reducible rfl))
        try simp only [Act.put, List.setIfInBounds_toArray, List.set_cons_zero, List.set_cons_succ]
        refine rtk 20 (oi := ⟨some 71, .fieldAddr 35 (.tmp 70) 0, _, _, _, some (10, true)⟩) (v := ?_) rfl ?_ hH ?_
        rotate_left
        · (intro w hSw; (try dsimp only at hSw); go_simp; (try with_reducible rfl))
        try simp only [Act.put, List.setIfInBounds_toArray, List.set_cons_zero, List.set_cons_succ]
        refine rtk 21 (oi := ⟨some 72, .load 31 (.tmp 71), _, _, _, some (10, true)⟩) (v := ?_) rfl ?_ hH ?_
        rotate_left
        · (intro w hSw; (try dsimp only at hSw); go_simp; (try with_reducible rfl))
        try simp only [Act.put, List.setIfInBounds_toArray, List.set_cons_zero, List.set_cons_succ]
        refine wpAnyH_ready (rs := [22]) (by kernel_rfl) (by simp) ?_
        refine AllReadyH.cons (o := ⟨some 73, .call { callee := .value (.func 17), args := #[.tmp 67, .tmp 72], argTypes := #[31, 31] }, _, _, _, some (10, true)⟩) rfl (fun K hK => ?_) AllReadyH.nil
        go_simp
        (with_reducible refine (LS.out _).mono ?_); rintro e v10_22 ⟨rfl, g⟩
        refine hK.out _ _ (by (try dsimp only); (go_split_ands; exact ⟨Kep.all g (by assumption), Kep.all g (by assumption), Kep.all g (by assumption), Kep.all g (by assumption), Kep.all g (by assumption), Kep.all g (by assumption), Kep.all g (by assumption), Kep.all g (by assumption), Kep.all g (by assumption), Kep.all g (by assumption), Kep.all g (by assumption), Kep.all g (by assumption), Kep.all g (by assumption), Kep.all g (by assumption), Kep.all g (by assumption), Kep.all g (by assumption), Kep.all g (by assumption), Kep.all g (by assumption), Kep.all g (by assumption), Kep.all g (by assumption), Kep.all g (by assumption), Kep.all g (by assumption), Kep.all g (by assumption), Kep.all g (by assumption), Kep.all g (by assumption), Kep.all g (by assumption), Kep.all g (by assumption), Kep.all g (by assumption), Kep.all g (by assumption), Kep.all g (by assumption), kep_next (by assumption) g⟩)) (fun hH2 => ?_)
        clear hK K hH; have hH := hH2; clear hH2
        try simp only [Act.put, List.setIfInBounds_toArray, List.set_cons_zero, List.set_cons_succ]
        refine rtk 23 (oi := ⟨some 74, .unOp .not 4 (.tmp 73), _, _, _, some (10, true)⟩) (v := ?_) rfl ?_ hH ?_
        rotate_left
        · (intro w hSw; (try dsimp only at hSw); go_simp; (try with_reducible rfl))
        try simp only [Act.put, List.setIfInBounds_toArray, List.set_cons_zero, List.set_cons_succ]
        refine rtk 24 (oi := ⟨some 75, .pick (.tmp 61) (.tmp 74) (.const (Value.bool false)), _, _, _, some (7, false)⟩) (v := ?_) rfl ?_ hH ?_
        rotate_left
        · (intro w hSw; (try dsimp only at hSw); go_simp; (try with_reducible rfl))
        refine rtk 25 (oi := ⟨some 76, .pick (.tmp 58) (.const (Value.bool true)) (.tmp 75), _, _, _, none⟩) (v := ?_) rfl ?_ hH ?_
        rotate_left
        · (intro w hSw; (try dsimp only at hSw); go_simp; (try with_reducible rfl))
        try simp only [Act.put, List.setIfInBounds_toArray, List.set_cons_zero, List.set_cons_succ]
        refine wpAnyH_done (by kernel_rfl) ?_ _
        refine NoPanic.normal ?_
        clear t0 t1 t2 t3 t4 s0 s1 s2 s3 s4 x0 x1 x2 x3 x4 x5 x6 x7 x8 x9 y0 y1 y2 y3 y4 y5 y6 y7 y8 y9 gg
        obtain ⟨t0, t1, t2, t3, t4, s0, s1, s2, s3, s4, x0, x1, x2, x3, x4, x5, x6, x7, x8, x9, y0, y1, y2, y3, y4, y5, y6, y7, y8, y9, gg⟩ := hH
        clear e1 e2 l1
        go_wp2_with fail
        obtain ⟨wq, hwq⟩ : ∃ z, z = v10_22 := ⟨_, rfl⟩
        rw [← hwq] at t0 t1 t2 t3 t4 x0 x1 x2 x3 x4 x5 x6 x7 x8 x9 y0 y1 y2 y3 y4 y5 y6 y7 y8 y9 gg ⊢
        clear hwq
        have HG := Lib.hid gg
        have hgw2 := gg.size
        clear gg
        have gg : Kep wq.heap.size wq wq := Kep.refl _ _
        go_cut [10, 11] (fun s10 s11 wx => ∃ b, s10 = .pointer (some ⟨b, 0, none⟩) ∧ s11 = .bool true ∧ ZC wx b [.int .u32 c.lo, .int .u32 c.hi, .int .i32 c.nx, .int .i32 c.ny, .int .i32 c.dp] ∧ (wx.cell? ⟨gc, oc + k * 5, none⟩ = some (.int .u32 c.lo) ∧ wx.cell? ⟨gc, oc + k * 5 + 1, none⟩ = some (.int .u32 c.hi) ∧ wx.cell? ⟨gc, oc + k * 5 + 2, none⟩ = some (.int .i32 c.nx) ∧ wx.cell? ⟨gc, oc + k * 5 + 3, none⟩ = some (.int .i32 c.ny) ∧ wx.cell? ⟨gc, oc + k * 5 + 4, none⟩ = some (.int .i32 c.dp)) ∧ Kep wq.heap.size wq wx)
        case first =>
          refine wp_region_noPanic ?_
          refine wp_region_held_drew (S := (fun w' => w'.cell? ⟨gl, off + a * 10, none⟩ = some (.int .u32 x.k) ∧ w'.cell? ⟨gl, off + a * 10 + 1, none⟩ = some (.int .i32 x.r) ∧ w'.cell? ⟨gl, off + a * 10 + 2, none⟩ = some (.int .i32 x.ax) ∧ w'.cell? ⟨gl, off + a * 10 + 3, none⟩ = some (.int .i32 x.ay) ∧ w'.cell? ⟨gl, off + a * 10 + 4, none⟩ = some (.int .i32 x.m) ∧ w'.cell? ⟨gl, off + a * 10 + 5, none⟩ = some (.int .i32 x.o) ∧ w'.cell? ⟨gl, off + a * 10 + 6, none⟩ = some (.int .i32 x.px) ∧ w'.cell? ⟨gl, off + a * 10 + 7, none⟩ = some (.int .i32 x.py) ∧ w'.cell? ⟨gl, off + a * 10 + 8, none⟩ = some (.int .i32 x.vx) ∧ w'.cell? ⟨gl, off + a * 10 + 9, none⟩ = some (.int .i32 x.vy) ∧ w'.cell? ⟨gl, off + b * 10, none⟩ = some (.int .u32 y.k) ∧ w'.cell? ⟨gl, off + b * 10 + 1, none⟩ = some (.int .i32 y.r) ∧ w'.cell? ⟨gl, off + b * 10 + 2, none⟩ = some (.int .i32 y.ax) ∧ w'.cell? ⟨gl, off + b * 10 + 3, none⟩ = some (.int .i32 y.ay) ∧ w'.cell? ⟨gl, off + b * 10 + 4, none⟩ = some (.int .i32 y.m) ∧ w'.cell? ⟨gl, off + b * 10 + 5, none⟩ = some (.int .i32 y.o) ∧ w'.cell? ⟨gl, off + b * 10 + 6, none⟩ = some (.int .i32 y.px) ∧ w'.cell? ⟨gl, off + b * 10 + 7, none⟩ = some (.int .i32 y.py) ∧ w'.cell? ⟨gl, off + b * 10 + 8, none⟩ = some (.int .i32 y.vx) ∧ w'.cell? ⟨gl, off + b * 10 + 9, none⟩ = some (.int .i32 y.vy) ∧ w'.cell? ⟨gc, oc + k * 5, none⟩ = some (.int .u32 c.lo) ∧ w'.cell? ⟨gc, oc + k * 5 + 1, none⟩ = some (.int .u32 c.hi) ∧ w'.cell? ⟨gc, oc + k * 5 + 2, none⟩ = some (.int .i32 c.nx) ∧ w'.cell? ⟨gc, oc + k * 5 + 3, none⟩ = some (.int .i32 c.ny) ∧ w'.cell? ⟨gc, oc + k * 5 + 4, none⟩ = some (.int .i32 c.dp) ∧ Kep wq.heap.size wq w')) (by kernel_rfl) (⟨by rw [World.cell?_drew]; exact x0, by rw [World.cell?_drew]; exact x1, by rw [World.cell?_drew]; exact x2, by rw [World.cell?_drew]; exact x3, by rw [World.cell?_drew]; exact x4, by rw [World.cell?_drew]; exact x5, by rw [World.cell?_drew]; exact x6, by rw [World.cell?_drew]; exact x7, by rw [World.cell?_drew]; exact x8, by rw [World.cell?_drew]; exact x9, by rw [World.cell?_drew]; exact y0, by rw [World.cell?_drew]; exact y1, by rw [World.cell?_drew]; exact y2, by rw [World.cell?_drew]; exact y3, by rw [World.cell?_drew]; exact y4, by rw [World.cell?_drew]; exact y5, by rw [World.cell?_drew]; exact y6, by rw [World.cell?_drew]; exact y7, by rw [World.cell?_drew]; exact y8, by rw [World.cell?_drew]; exact y9, by rw [World.cell?_drew]; exact t0, by rw [World.cell?_drew]; exact t1, by rw [World.cell?_drew]; exact t2, by rw [World.cell?_drew]; exact t3, by rw [World.cell?_drew]; exact t4, kep_drew gg⟩) (fun hH => ?_)
          refine rtk 0 (oi := ⟨some 78, .move (.tmp 3), _, _, _, none⟩) (v := ?_) rfl ?_ hH ?_
          rotate_left
          · (intro w hSw; (try dsimp only at hSw); go_simp; (try with_reducible rfl))
          refine rtk 1 (oi := ⟨some 79, .move (.tmp 8), _, _, _, none⟩) (v := ?_) rfl ?_ hH ?_
          rotate_left
          · (intro w hSw; (try dsimp only at hSw); go_simp; (try with_reducible rfl))
          refine rtk 2 (oi := ⟨some 80, .indexAddr 22 (.tmp 78) (.tmp 79), _, _, _, none⟩) (v := ?_) rfl ?_ hH ?_
          rotate_left
          · (intro w hSw; (try dsimp only at hSw); go_simp; (try with_reducible rfl))
          refine rtk 3 (oi := ⟨some 81, .load 46 (.tmp 80), _, _, _, none⟩) (v := ?_) rfl ?_ hH ?_
          rotate_left
          · (intro w hSw; (try dsimp only at hSw); go_simp; (try with_reducible rfl))
          refine rtk 4 (oi := ⟨some 82, .move (.tmp 3), _, _, _, none⟩) (v := ?_) rfl ?_ hH ?_
          rotate_left
          · (intro w hSw; (try dsimp only at hSw); go_simp; (try with_reducible rfl))
          refine rtk 5 (oi := ⟨some 83, .move (.tmp 9), _, _, _, none⟩) (v := ?_) rfl ?_ hH ?_
          rotate_left
          · (intro w hSw; (try dsimp only at hSw); go_simp; (try with_reducible rfl))
          refine rtk 6 (oi := ⟨some 84, .indexAddr 22 (.tmp 82) (.tmp 83), _, _, _, none⟩) (v := ?_) rfl ?_ hH ?_
          rotate_left
          · (intro w hSw; (try dsimp only at hSw); go_simp; (try with_reducible rfl))
          refine rtk 7 (oi := ⟨some 85, .load 46 (.tmp 84), _, _, _, none⟩) (v := ?_) rfl ?_ hH ?_
          rotate_left
          · (intro w hSw; (try dsimp only at hSw); go_simp; (try with_reducible rfl))
          try simp only [Act.put, List.setIfInBounds_toArray, List.set_cons_zero, List.set_cons_succ]
          refine wpAnyH_ready (rs := [8, 12]) (by kernel_rfl) (by simp) ?_
          refine AllReadyH.cons (o := ⟨some 86, .call { callee := .value (.func 18), args := #[.tmp 81, .tmp 85], argTypes := #[46, 46] }, _, _, _, none⟩) rfl (fun K hK => ?_) (AllReadyH.cons (o := ⟨some 10, .alloc 35, _, _, _, none⟩) rfl (fun K hK => ?_) AllReadyH.nil)
          ·
            go_simp
            (with_reducible refine (RO.out _).mono ?_); rintro e v12_1 ⟨rfl, g⟩
            refine hK.out _ _ (by (try dsimp only); (go_split_ands; exact ⟨Kep.all g (by assumption), Kep.all g (by assumption), Kep.all g (by assumption), Kep.all g (by assumption), Kep.all g (by assumption), Kep.all g (by assumption), Kep.all g (by assumption), Kep.all g (by assumption), Kep.all g (by assumption), Kep.all g (by assumption), Kep.all g (by assumption), Kep.all g (by assumption), Kep.all g (by assumption), Kep.all g (by assumption), Kep.all g (by assumption), Kep.all g (by assumption), Kep.all g (by assumption), Kep.all g (by assumption), Kep.all g (by assumption), Kep.all g (by assumption), Kep.all g (by assumption), Kep.all g (by assumption), Kep.all g (by assumption), Kep.all g (by assumption), Kep.all g (by assumption), kep_next (by assumption) g⟩)) (fun hH2 => ?_)
            clear hK K hH; have hH := hH2; clear hH2
            refine rtk 9 (oi := ⟨some 77, .move (.tmp 86), _, _, _, none⟩) (v := ?_) rfl ?_ hH ?_
            rotate_left
            · (intro w hSw; (try dsimp only at hSw); go_simp; (try with_reducible rfl))
            refine rtk 10 (oi := ⟨some 87, .extract (.tmp 77) 0, _, _, _, none⟩) (v := ?_) rfl ?_ hH ?_
            rotate_left
            · (intro w hSw; (try dsimp only at hSw); go_simp; (try with_reducible rfl))
            refine rtk 11 (oi := ⟨some 88, .extract (.tmp 77) 1, _, _, _, none⟩) (v := ?_) rfl ?_ hH ?_
            rotate_left
            · (intro w hSw; (try dsimp only at hSw); go_simp; (try with_reducible rfl))
            try simp only [Act.put, List.setIfInBounds_toArray, List.set_cons_zero, List.set_cons_succ]
            refine wpAnyH_ready (rs := [12]) (by kernel_rfl) (by simp) ?_
            refine AllReadyH.cons (o := ⟨some 10, .alloc 35, _, _, _, none⟩) rfl (fun K hK => ?_) AllReadyH.nil
            go_simp
            have z1 : ZC (World.alloc (v12_1) (.cells #[.int .u32 0, .int .u32 0, .int .i32 0, .int .i32 0, .int .i32 0] 35)) (v12_1).heap.size [.int .u32 0, .int .u32 0, .int .i32 0, .int .i32 0, .int .i32 0] := zc_new _ _ _
            have z1b : wq.heap.size ≤ (v12_1).heap.size := by obtain ⟨x0, x1, x2, x3, x4, x5, x6, x7, x8, x9, y0, y1, y2, y3, y4, y5, y6, y7, y8, y9, t0, t1, t2, t3, t4, gg⟩ := id hH; exact gg.size
            refine hK.out _ _ (by (try dsimp only); (go_split_ands; exact ⟨kma, kma, kma, kma, kma, kma, kma, kma, kma, kma, kma, kma, kma, kma, kma, kma, kma, kma, kma, kma, kma, kma, kma, kma, kma, kep_more (by assumption) _⟩)) (fun hH2 => ?_)
            try simp only [World.size_drew] at z1 z1b
            have hH_z1 := hH
            clear hK K hH; have hH := hH2; clear hH2
            try simp only [Act.put, List.setIfInBounds_toArray, List.set_cons_zero, List.set_cons_succ]
            refine wpAnyH_ready (rs := [13]) (by kernel_rfl) (by simp) ?_
            refine AllReadyH.cons (o := ⟨none, .store 35 (.tmp 10) (.tmp 87), _, _, _, none⟩) rfl (fun K hK => ?_) AllReadyH.nil
            obtain ⟨x0, x1, x2, x3, x4, x5, x6, x7, x8, x9, y0, y1, y2, y3, y4, y5, y6, y7, y8, y9, t0, t1, t2, t3, t4, gg⟩ := id hH
            have z1q0 := z1.i (i := 0) rfl; have z1f0 := z1.frz 0
            have z1q1 := z1.i (i := 1) rfl; have z1f1 := z1.frz 1
            have z1q2 := z1.i (i := 2) rfl; have z1f2 := z1.frz 2
            have z1q3 := z1.i (i := 3) rfl; have z1f3 := z1.frz 3
            have z1q4 := z1.i (i := 4) rfl; have z1f4 := z1.frz 4
            go_simp
            have z1' : ZC (World.alloc (v12_1) (.cells #[.int .u32 c.lo, .int .u32 c.hi, .int .i32 c.nx, .int .i32 c.ny, .int .i32 c.dp] 35)) (v12_1).heap.size [.int .u32 c.lo, .int .u32 c.hi, .int .i32 c.nx, .int .i32 c.ny, .int .i32 c.dp] := zc_new _ _ _
            try simp only [World.size_drew] at z1'
            clear z1; have z1 := z1'; clear z1'
            refine hK.out _ _ (by (try dsimp only); obtain ⟨x0, x1, x2, x3, x4, x5, x6, x7, x8, x9, y0, y1, y2, y3, y4, y5, y6, y7, y8, y9, t0, t1, t2, t3, t4, gg⟩ := id hH_z1; exact ⟨Kep.all (kep_more (Kep.refl _ _) _) x0, Kep.all (kep_more (Kep.refl _ _) _) x1, Kep.all (kep_more (Kep.refl _ _) _) x2, Kep.all (kep_more (Kep.refl _ _) _) x3, Kep.all (kep_more (Kep.refl _ _) _) x4, Kep.all (kep_more (Kep.refl _ _) _) x5, Kep.all (kep_more (Kep.refl _ _) _) x6, Kep.all (kep_more (Kep.refl _ _) _) x7, Kep.all (kep_more (Kep.refl _ _) _) x8, Kep.all (kep_more (Kep.refl _ _) _) x9, Kep.all (kep_more (Kep.refl _ _) _) y0, Kep.all (kep_more (Kep.refl _ _) _) y1, Kep.all (kep_more (Kep.refl _ _) _) y2, Kep.all (kep_more (Kep.refl _ _) _) y3, Kep.all (kep_more (Kep.refl _ _) _) y4, Kep.all (kep_more (Kep.refl _ _) _) y5, Kep.all (kep_more (Kep.refl _ _) _) y6, Kep.all (kep_more (Kep.refl _ _) _) y7, Kep.all (kep_more (Kep.refl _ _) _) y8, Kep.all (kep_more (Kep.refl _ _) _) y9, Kep.all (kep_more (Kep.refl _ _) _) t0, Kep.all (kep_more (Kep.refl _ _) _) t1, Kep.all (kep_more (Kep.refl _ _) _) t2, Kep.all (kep_more (Kep.refl _ _) _) t3, Kep.all (kep_more (Kep.refl _ _) _) t4, kep_more gg _⟩) (fun hH2 => ?_)
            clear hH_z1
            clear hK K hH x0 x1 x2 x3 x4 x5 x6 x7 x8 x9 y0 y1 y2 y3 y4 y5 y6 y7 y8 y9 t0 t1 t2 t3 t4 gg z1q0 z1f0 z1q1 z1f1 z1q2 z1f2 z1q3 z1f3 z1q4 z1f4; have hH := hH2; clear hH2
            refine rtk 14 (oi := ⟨some 11, .assign (.tmp 88), _, _, _, none⟩) (v := ?_) rfl ?_ hH ?_
            rotate_left
            · (intro w hSw; (try dsimp only at hSw); go_simp; (try with_reducible rfl))
            try simp only [Act.put, List.setIfInBounds_toArray, List.set_cons_zero, List.set_cons_succ]
            refine wpAnyH_done (by kernel_rfl) ?_ _
            refine NoPanic.normal ?_
            obtain ⟨x0, x1, x2, x3, x4, x5, x6, x7, x8, x9, y0, y1, y2, y3, y4, y5, y6, y7, y8, y9, t0, t1, t2, t3, t4, gg⟩ := hH
            go_wp2_with fail
            go_meet
            exact ⟨_, rfl, rfl, z1, ⟨t0, t1, t2, t3, t4⟩, gg⟩
          ·
            go_simp
            have z1 : ZC (World.alloc (wq.drew) (.cells #[.int .u32 0, .int .u32 0, .int .i32 0, .int .i32 0, .int .i32 0] 35)) (wq.drew).heap.size [.int .u32 0, .int .u32 0, .int .i32 0, .int .i32 0, .int .i32 0] := zc_new _ _ _
            have z1b : wq.heap.size ≤ (wq.drew).heap.size := by obtain ⟨x0, x1, x2, x3, x4, x5, x6, x7, x8, x9, y0, y1, y2, y3, y4, y5, y6, y7, y8, y9, t0, t1, t2, t3, t4, gg⟩ := id hH; exact gg.size
            refine hK.out _ _ (by (try dsimp only); (go_split_ands; exact ⟨kma, kma, kma, kma, kma, kma, kma, kma, kma, kma, kma, kma, kma, kma, kma, kma, kma, kma, kma, kma, kma, kma, kma, kma, kma, kep_more (by assumption) _⟩)) (fun hH2 => ?_)
            try simp only [World.size_drew] at z1 z1b
            have hH_z1 := hH
            clear hK K hH; have hH := hH2; clear hH2
            try simp only [Act.put, List.setIfInBounds_toArray, List.set_cons_zero, List.set_cons_succ]
            refine wpAnyH_ready (rs := [8]) (by kernel_rfl) (by simp) ?_
            refine AllReadyH.cons (o := ⟨some 86, .call { callee := .value (.func 18), args := #[.tmp 81, .tmp 85], argTypes := #[46, 46] }, _, _, _, none⟩) rfl (fun K hK => ?_) AllReadyH.nil
            go_simp
            (with_reducible refine (RO.out _).mono ?_); rintro e v12_2 ⟨rfl, g⟩
            replace z1 := z1.kep g
            refine hK.out _ _ (by (try dsimp only); (go_split_ands; exact ⟨Kep.all g (by assumption), Kep.all g (by assumption), Kep.all g (by assumption), Kep.all g (by assumption), Kep.all g (by assumption), Kep.all g (by assumption), Kep.all g (by assumption), Kep.all g (by assumption), Kep.all g (by assumption), Kep.all g (by assumption), Kep.all g (by assumption), Kep.all g (by assumption), Kep.all g (by assumption), Kep.all g (by assumption), Kep.all g (by assumption), Kep.all g (by assumption), Kep.all g (by assumption), Kep.all g (by assumption), Kep.all g (by assumption), Kep.all g (by assumption), Kep.all g (by assumption), Kep.all g (by assumption), Kep.all g (by assumption), Kep.all g (by assumption), Kep.all g (by assumption), kep_next (by assumption) g⟩)) (fun hH2 => ?_)
            clear hK K hH; have hH := hH2; clear hH2
            refine rtk 9 (oi := ⟨some 77, .move (.tmp 86), _, _, _, none⟩) (v := ?_) rfl ?_ hH ?_
            rotate_left
            · (intro w hSw; (try dsimp only at hSw); go_simp; (try with_reducible rfl))
            refine rtk 10 (oi := ⟨some 87, .extract (.tmp 77) 0, _, _, _, none⟩) (v := ?_) rfl ?_ hH ?_
            rotate_left
            · (intro w hSw; (try dsimp only at hSw); go_simp; (try with_reducible rfl))
            refine rtk 11 (oi := ⟨some 88, .extract (.tmp 77) 1, _, _, _, none⟩) (v := ?_) rfl ?_ hH ?_
            rotate_left
            · (intro w hSw; (try dsimp only at hSw); go_simp; (try with_reducible rfl))
            try simp only [Act.put, List.setIfInBounds_toArray, List.set_cons_zero, List.set_cons_succ]
            refine wpAnyH_ready (rs := [13]) (by kernel_rfl) (by simp) ?_
            refine AllReadyH.cons (o := ⟨none, .store 35 (.tmp 10) (.tmp 87), _, _, _, none⟩) rfl (fun K hK => ?_) AllReadyH.nil
            obtain ⟨x0, x1, x2, x3, x4, x5, x6, x7, x8, x9, y0, y1, y2, y3, y4, y5, y6, y7, y8, y9, t0, t1, t2, t3, t4, gg⟩ := id hH
            have z1q0 := z1.i (i := 0) rfl; have z1f0 := z1.frz 0
            have z1q1 := z1.i (i := 1) rfl; have z1f1 := z1.frz 1
            have z1q2 := z1.i (i := 2) rfl; have z1f2 := z1.frz 2
            have z1q3 := z1.i (i := 3) rfl; have z1f3 := z1.frz 3
            have z1q4 := z1.i (i := 4) rfl; have z1f4 := z1.frz 4
            go_simp
            have hst : (fun w' => w'.cell? ⟨gl, off + a * 10, none⟩ = some (.int .u32 x.k) ∧ w'.cell? ⟨gl, off + a * 10 + 1, none⟩ = some (.int .i32 x.r) ∧ w'.cell? ⟨gl, off + a * 10 + 2, none⟩ = some (.int .i32 x.ax) ∧ w'.cell? ⟨gl, off + a * 10 + 3, none⟩ = some (.int .i32 x.ay) ∧ w'.cell? ⟨gl, off + a * 10 + 4, none⟩ = some (.int .i32 x.m) ∧ w'.cell? ⟨gl, off + a * 10 + 5, none⟩ = some (.int .i32 x.o) ∧ w'.cell? ⟨gl, off + a * 10 + 6, none⟩ = some (.int .i32 x.px) ∧ w'.cell? ⟨gl, off + a * 10 + 7, none⟩ = some (.int .i32 x.py) ∧ w'.cell? ⟨gl, off + a * 10 + 8, none⟩ = some (.int .i32 x.vx) ∧ w'.cell? ⟨gl, off + a * 10 + 9, none⟩ = some (.int .i32 x.vy) ∧ w'.cell? ⟨gl, off + b * 10, none⟩ = some (.int .u32 y.k) ∧ w'.cell? ⟨gl, off + b * 10 + 1, none⟩ = some (.int .i32 y.r) ∧ w'.cell? ⟨gl, off + b * 10 + 2, none⟩ = some (.int .i32 y.ax) ∧ w'.cell? ⟨gl, off + b * 10 + 3, none⟩ = some (.int .i32 y.ay) ∧ w'.cell? ⟨gl, off + b * 10 + 4, none⟩ = some (.int .i32 y.m) ∧ w'.cell? ⟨gl, off + b * 10 + 5, none⟩ = some (.int .i32 y.o) ∧ w'.cell? ⟨gl, off + b * 10 + 6, none⟩ = some (.int .i32 y.px) ∧ w'.cell? ⟨gl, off + b * 10 + 7, none⟩ = some (.int .i32 y.py) ∧ w'.cell? ⟨gl, off + b * 10 + 8, none⟩ = some (.int .i32 y.vx) ∧ w'.cell? ⟨gl, off + b * 10 + 9, none⟩ = some (.int .i32 y.vy) ∧ w'.cell? ⟨gc, oc + k * 5, none⟩ = some (.int .u32 c.lo) ∧ w'.cell? ⟨gc, oc + k * 5 + 1, none⟩ = some (.int .u32 c.hi) ∧ w'.cell? ⟨gc, oc + k * 5 + 2, none⟩ = some (.int .i32 c.nx) ∧ w'.cell? ⟨gc, oc + k * 5 + 3, none⟩ = some (.int .i32 c.ny) ∧ w'.cell? ⟨gc, oc + k * 5 + 4, none⟩ = some (.int .i32 c.dp) ∧ Kep wq.heap.size wq w') (setAll (v12_2) ((wq).heap.size) 0 [.int .u32 c.lo, .int .u32 c.hi, .int .i32 c.nx, .int .i32 c.ny, .int .i32 c.dp]) := ⟨setAll_far _ _ _ _ (by first | omega | (simp; done) | (simp; omega)) x0, setAll_far _ _ _ _ (by first | omega | (simp; done) | (simp; omega)) x1, setAll_far _ _ _ _ (by first | omega | (simp; done) | (simp; omega)) x2, setAll_far _ _ _ _ (by first | omega | (simp; done) | (simp; omega)) x3, setAll_far _ _ _ _ (by first | omega | (simp; done) | (simp; omega)) x4, setAll_far _ _ _ _ (by first | omega | (simp; done) | (simp; omega)) x5, setAll_far _ _ _ _ (by first | omega | (simp; done) | (simp; omega)) x6, setAll_far _ _ _ _ (by first | omega | (simp; done) | (simp; omega)) x7, setAll_far _ _ _ _ (by first | omega | (simp; done) | (simp; omega)) x8, setAll_far _ _ _ _ (by first | omega | (simp; done) | (simp; omega)) x9, setAll_far _ _ _ _ (by first | omega | (simp; done) | (simp; omega)) y0, setAll_far _ _ _ _ (by first | omega | (simp; done) | (simp; omega)) y1, setAll_far _ _ _ _ (by first | omega | (simp; done) | (simp; omega)) y2, setAll_far _ _ _ _ (by first | omega | (simp; done) | (simp; omega)) y3, setAll_far _ _ _ _ (by first | omega | (simp; done) | (simp; omega)) y4, setAll_far _ _ _ _ (by first | omega | (simp; done) | (simp; omega)) y5, setAll_far _ _ _ _ (by first | omega | (simp; done) | (simp; omega)) y6, setAll_far _ _ _ _ (by first | omega | (simp; done) | (simp; omega)) y7, setAll_far _ _ _ _ (by first | omega | (simp; done) | (simp; omega)) y8, setAll_far _ _ _ _ (by first | omega | (simp; done) | (simp; omega)) y9, setAll_far _ _ _ _ (by first | omega | (simp; done) | (simp; omega)) t0, setAll_far _ _ _ _ (by first | omega | (simp; done) | (simp; omega)) t1, setAll_far _ _ _ _ (by first | omega | (simp; done) | (simp; omega)) t2, setAll_far _ _ _ _ (by first | omega | (simp; done) | (simp; omega)) t3, setAll_far _ _ _ _ (by first | omega | (simp; done) | (simp; omega)) t4, kep_setAll (by first | omega | (have := gg.size; simp at *; omega)) _ _ gg⟩
            replace z1 := z1.set [.int .u32 c.lo, .int .u32 c.hi, .int .i32 c.nx, .int .i32 c.ny, .int .i32 c.dp] (by simp)
            simp only [setAll, Nat.zero_add, Nat.reduceAdd] at hst z1
            refine hK.out _ _ hst (fun hH2 => ?_)
            clear hst
            clear hK K hH x0 x1 x2 x3 x4 x5 x6 x7 x8 x9 y0 y1 y2 y3 y4 y5 y6 y7 y8 y9 t0 t1 t2 t3 t4 gg z1q0 z1f0 z1q1 z1f1 z1q2 z1f2 z1q3 z1f3 z1q4 z1f4; have hH := hH2; clear hH2
            refine rtk 14 (oi := ⟨some 11, .assign (.tmp 88), _, _, _, none⟩) (v := ?_) rfl ?_ hH ?_
            rotate_left
            · (intro w hSw; (try dsimp only at hSw); go_simp; (try with_reducible rfl))
            try simp only [Act.put, List.setIfInBounds_toArray, List.set_cons_zero, List.set_cons_succ]
            refine wpAnyH_done (by kernel_rfl) ?_ _
            refine NoPanic.normal ?_
            obtain ⟨x0, x1, x2, x3, x4, x5, x6, x7, x8, x9, y0, y1, y2, y3, y4, y5, y6, y7, y8, y9, t0, t1, t2, t3, t4, gg⟩ := hH
            go_wp2_with fail
            go_meet
            exact ⟨_, rfl, rfl, z1, ⟨t0, t1, t2, t3, t4⟩, gg⟩
        case rest =>
          obtain ⟨u, rfl, rfl, zc, ⟨t0, t1, t2, t3, t4⟩, gc2⟩ := hcut
          have y5 := zc.i (i := 0) rfl
          have y6 := zc.i (i := 1) rfl
          have y7 := zc.i (i := 2) rfl
          have y8 := zc.i (i := 3) rfl
          have y9 := zc.i (i := 4) rfl
          have vne := fun w => ct_ncmp c.lo c.hi c.nx c.ny c.dp w
          have gg := HG.out.trans (gc2.mono hgw2)
          clear zc gc2
          go_wp2_with fail
          go_quiet (fail)
          go_wp2_with fail
          go_roundw
          case rel => exact ⟨k + 1, by omega, by go_num, Lib.hid (by repeat first | exact gg | refine Kep.drew ?_ | refine kep_drewN ?_ _)⟩
          case measure => simp [RowKit.intOf]; omega

    · go_wp2_with fail
      go_ret
      exact ⟨rfl, kep_next G0.out gg⟩
/-- The law ContactsAll. -/
theorem cxl_law (O : COps) (AW : CAwake) (L : List Bd) (v : Value) (w : World) (F0 : Fac w) (hq : Lst w v L) (HF : ∀ x ∈ L, Fits x) : Calls Tryz.prog 4 #[v] w fun e w' => e = .returned (.bool true) ∧ Kep w.heap.size w w' := by
  cases hvw : viwB L
  · exact cxl_bad (Lib.hid AW) L v w F0 hq hvw
  · exact cxl_ok O (Lib.hid AW) L v w F0 hq (Lib.hid HF) hvw
end Go.Proofs.YtangalkbjochjaaGreatDoor
