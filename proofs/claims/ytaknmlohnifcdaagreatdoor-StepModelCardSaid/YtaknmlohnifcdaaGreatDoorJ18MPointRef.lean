import Derived.Test.YtaknmlohnifcdaaGreatDoorJ03MRootArith
import Derived.Test.YtaknmlohnifcdaaGreatDoorJ17MRefMul
import Derived.Test.YtaknmlohnifcdaaGreatDoorJ02MSeq
import Derived.Test.YtaknmlohnifcdaaGreatDoorJ00MBits
import Derived.Deep.DeepCutAuto
import Derived.Deep.QuietTactic
import Derived.BigQuiet
import Derived.Test.YtaknmlohnifcdaaGreatDoorJ01MBodies
import Derived.Test.YtaknmlohnifcdaaGreatDoorJ04MSortMath
set_option maxHeartbeats 8000000
set_option maxRecDepth 100000
namespace Go.Proofs.YtaknmlohnifcdaaGreatDoor
open Go.RowKit Go.Lib
abbrev Cin (n : Int) : Prop := -1082130432 ≤ n ∧ n ≤ 1082130432
abbrev Din (n : Int) : Prop := -16777216 ≤ n ∧ n ≤ 16777216
structure Rg (px py qx qy cx cy : Int) : Prop where
 hpx : Cin px
 hpy : Cin py
 hqx : Cin qx
 hqy : Cin qy
 hcx : Cin cx
 hcy : Cin cy
 hdx : Din (qx - px)
 hdy : Din (qy - py)
abbrev RLi (n a b q : Int) : Prop := ∀ w, Calls Tryz.prog 164 #[.int .i64 n, .int .i64 a, .int .i64 b] w fun e w' => e = .returned (.int .i64 q) ∧ w = w'
abbrev RSq (px py qx qy s : Int) : Prop := ∀ w, Calls Tryz.prog 131 #[.agg #[.int .i32 px, .int .i32 py], .agg #[.int .i32 qx, .int .i32 qy]] w fun e w' => e = .returned (.int .i64 s) ∧ Kep w.heap.size w w'
abbrev RPa (px py qx qy cx cy n : Int) : Prop := ∀ w, Calls Tryz.prog 132 #[.agg #[.int .i32 px, .int .i32 py], .agg #[.int .i32 qx, .int .i32 qy], .agg #[.int .i32 cx, .int .i32 cy]] w fun e w' => e = .returned (.int .i64 n) ∧ Kep w.heap.size w w'
abbrev RNe (px py qx qy cx cy x y : Int) : Prop := ∀ w, Calls Tryz.prog 105 #[.agg #[.int .i32 px, .int .i32 py], .agg #[.int .i32 qx, .int .i32 qy], .agg #[.int .i32 cx, .int .i32 cy]] w fun e w' => e = .returned (.agg #[.int .i32 x, .int .i32 y]) ∧ Kep w.heap.size w w'
theorem rli (n d q : Int) (h : limP n d = q) : RLi n 0 d q := fun w => by
 unfold limP at h
 by_cases c1 : n < 0
 ·rw [if_pos c1] at h
  subst h
  have e1 : decide (n < 0) = true := decide_eq_true c1
  clear c1
  go_enter Tryz.func164, Tryz.ntmps164
  go_wp2_with fail
  go_ret
  exact ⟨rfl, rfl⟩
 ·rw [if_neg c1] at h
  have e1 : decide (n < 0) = false := decide_eq_false c1
  by_cases c2 : d < n
  ·rw [if_pos c2] at h
   subst h
   have e2 : decide (d < n) = true := decide_eq_true c2
   clear c1 c2
   go_enter Tryz.func164, Tryz.ntmps164
   go_wp2_with fail
   go_ret
   exact ⟨rfl, rfl⟩
  ·rw [if_neg c2] at h
   subst h
   have e2 : decide (d < n) = false := decide_eq_false c2
   clear c1 c2
   go_enter Tryz.func164, Tryz.ntmps164
   go_wp2_with fail
   go_ret
   exact ⟨rfl, rfl⟩
theorem sq_dn {d : Int} (h : Din d) : 0 ≤ d * d ∧ d * d ≤ 281474976710656 := by
 obtain ⟨h1, h2⟩ := h
 rcases Int.le_total 0 d with c | c
 ·have := Int.mul_le_mul h2 h2 c (by omega)
  exact ⟨Int.mul_nonneg c c, by omega⟩
 ·have h3 : -d ≤ 16777216 := by omega
  have := Int.mul_le_mul h3 h3 (by omega) (by omega)
  rw [Int.neg_mul_neg] at this
  exact ⟨Int.mul_nonneg_of_nonpos_of_nonpos c c, by omega⟩
theorem sqP_dn {dx dy : Int} (hx : Din dx) (hy : Din dy) : 0 ≤ sqP dx dy ∧ sqP dx dy ≤ 562949953421312 := by
 have h1 := sq_dn hx
 have h2 := sq_dn hy
 unfold sqP
 omega
theorem mul_dn {u d : Int} (hu : -2181038080 ≤ u ∧ u ≤ 2181038080) (hd : Din d) : -36591746972385280 ≤ u * d ∧ u * d ≤ 36591746972385280 := by
 obtain ⟨h1, h2⟩ := hd
 have key : ∀ a b : Int, 0 ≤ a → a ≤ 2181038080 → -16777216 ≤ b → b ≤ 16777216 → -36591746972385280 ≤ a * b ∧ a * b ≤ 36591746972385280 := fun a b ha ha2 hb1 hb2 => by
  rcases Int.le_total 0 b with c | c
  ·have := Int.mul_le_mul ha2 hb2 c (by omega)
   have := Int.mul_nonneg ha c
   omega
  ·have := Int.mul_le_mul ha2 (show -b ≤ 16777216 by omega) (by omega) (by omega)
   have h := Int.mul_nonneg ha (show 0 ≤ -b by omega)
   rw [Int.mul_neg] at *
   omega
 rcases Int.le_total 0 u with c | c
 ·exact key u d c hu.2 h1 h2
 ·have := key (-u) d (by omega) (by omega) h1 h2
  rw [Int.neg_mul] at this
  omega
theorem rsq {px py qx qy dx dy s : Int} (h1 : Cin px) (h2 : Cin py) (h3 : Cin qx) (h4 : Cin qy) (h5 : Din dx) (h6 : Din dy) (hx : qx - px = dx) (hy : qy - py = dy) (hs : sqP dx dy = s) : RSq px py qx qy s := fun w => by
 have k1 := sq_dn h5
 have k2 := sq_dn h6
 unfold sqP at hs
 obtain ⟨xx, hxx⟩ : ∃ x, x = dx * dx := ⟨_, rfl⟩
 obtain ⟨yy, hyy⟩ : ∃ x, x = dy * dy := ⟨_, rfl⟩
 rw [← hxx] at k1 hs
 rw [← hyy] at k2 hs
 have e1 : IntKind.i64.wrap px = px := by rw [IntKind.wrap_i64]; omega
 have e2 : IntKind.i64.wrap py = py := by rw [IntKind.wrap_i64]; omega
 have e3 : IntKind.i64.wrap qx = qx := by rw [IntKind.wrap_i64]; omega
 have e4 : IntKind.i64.wrap qy = qy := by rw [IntKind.wrap_i64]; omega
 have e5 : IntKind.i64.wrap (qx - px) = dx := by rw [IntKind.wrap_i64]; omega
 have e6 : IntKind.i64.wrap (qy - py) = dy := by rw [IntKind.wrap_i64]; omega
 have e7 : IntKind.i64.wrap (dx * dx) = xx := by rw [← hxx, IntKind.wrap_i64]; omega
 have e8 : IntKind.i64.wrap (dy * dy) = yy := by rw [← hyy, IntKind.wrap_i64]; omega
 have e9 : IntKind.i64.wrap (xx + yy) = s := by rw [IntKind.wrap_i64]; omega
 clear h1 h2 h3 h4 h5 h6 hx hy hs hxx hyy k1 k2
 go_enter Tryz.func131, Tryz.ntmps131
 go_wp2_with fail
 go_ret
 exact ⟨rfl, (kep_more (kep_more (Kep.refl _ _) _) _)⟩
theorem rpa {px py qx qy cx cy dx dy ux uy n : Int} (H : Rg px py qx qy cx cy) (hx : qx - px = dx) (hy : qy - py = dy) (hu : cx - px = ux) (hv : cy - py = uy) (hn : paP ux uy dx dy = n) : RPa px py qx qy cx cy n := fun w => by
 obtain ⟨h1, h2, h3, h4, h5, h6, h7, h8⟩ := H
 rw [hx] at h7
 rw [hy] at h8
 have C1 := Lib.hid (rsq h1 h2 h3 h4 h7 h8 hx hy rfl)
 have k1 := mul_dn (u := ux) (by unfold Cin at *; omega) h7
 have k2 := mul_dn (u := uy) (by unfold Cin at *; omega) h8
 unfold paP at hn
 have C2 := Lib.hid (rli _ _ n hn)
 obtain ⟨xx, hxx⟩ : ∃ x, x = ux * dx := ⟨_, rfl⟩
 obtain ⟨yy, hyy⟩ : ∃ x, x = uy * dy := ⟨_, rfl⟩
 rw [← hxx] at k1 C2
 rw [← hyy] at k2 C2
 obtain ⟨t, ht⟩ : ∃ t, t = xx + yy := ⟨_, rfl⟩
 rw [← ht] at C2
 have e0 : IntKind.i64.wrap px = px := by rw [IntKind.wrap_i64]; omega
 have e1 : IntKind.i64.wrap py = py := by rw [IntKind.wrap_i64]; omega
 have e2 : IntKind.i64.wrap qx = qx := by rw [IntKind.wrap_i64]; omega
 have e3 : IntKind.i64.wrap qy = qy := by rw [IntKind.wrap_i64]; omega
 have e4 : IntKind.i64.wrap cx = cx := by rw [IntKind.wrap_i64]; omega
 have e5 : IntKind.i64.wrap cy = cy := by rw [IntKind.wrap_i64]; omega
 have f0 : IntKind.i64.wrap (qx - px) = dx := by rw [IntKind.wrap_i64]; omega
 have f1 : IntKind.i64.wrap (qy - py) = dy := by rw [IntKind.wrap_i64]; omega
 have f2 : IntKind.i64.wrap (cx - px) = ux := by rw [IntKind.wrap_i64]; omega
 have f3 : IntKind.i64.wrap (cy - py) = uy := by rw [IntKind.wrap_i64]; omega
 have f4 : IntKind.i64.wrap (ux * dx) = xx := by rw [← hxx, IntKind.wrap_i64]; omega
 have f5 : IntKind.i64.wrap (uy * dy) = yy := by rw [← hyy, IntKind.wrap_i64]; omega
 have f6 : IntKind.i64.wrap (xx + yy) = t := by rw [← ht, IntKind.wrap_i64]; omega
 clear h1 h2 h3 h4 h5 h6 h7 h8 hx hy hu hv hn hxx hyy ht k1 k2
 generalize sqP dx dy = s at *
 go_enter Tryz.func132, Tryz.ntmps132
 go_wp2_with (first
  | ((with_reducible refine (C1.out _).mono ?_); rintro e w1 ⟨rfl, g1⟩; have gg := kep_next (kep_more (kep_more (kep_more (Kep.refl _ _) _) _) _) g1)
  | ((with_reducible refine (C2.out _).mono ?_); rintro e w2 ⟨rfl, rfl⟩))
 go_ret
 exact ⟨rfl, gg⟩
theorem mdv_st {dx n d : Int} (hd : 0 < d) (h0 : 0 ≤ n) (h1 : n ≤ d) (hx : Din dx) : mdv dx n d = stP dx n d ∧ mde dx n d = 0 := by
 have h := stP_in (dx := dx) h0 h1
 have e : fl (dx * n) d = stP dx n d := by unfold fl stP; rw [if_neg (by omega), if_neg (by omega)]
 have hI : I64 (stP dx n d) := by obtain ⟨h3, h4⟩ := hx; unfold I64; omega
 have hc : ¬ d = 0 := by omega
 constructor
 ·show (if d = 0 then 0 else rv (fl (dx * n) d)) = _
  rw [if_neg hc, e]
  exact if_pos hI
 ·show (if d = 0 then 2 else re (fl (dx * n) d)) = _
  rw [if_neg hc, e]
  exact if_pos hI
theorem st_box {px qx dx n d : Int} (h0 : 0 ≤ n) (h1 : n ≤ d) (hx : qx - px = dx) : min px qx ≤ px + stP dx n d ∧ px + stP dx n d ≤ max px qx := by
 have := stP_in (dx := dx) h0 h1
 omega
theorem rne_zero {px py qx qy cx cy dx dy : Int} (H : Rg px py qx qy cx cy) (hx : qx - px = dx) (hy : qy - py = dy) (hz : sqP dx dy = 0) : RNe px py qx qy cx cy px py := fun w => by
 obtain ⟨h1, h2, h3, h4, h5, h6, h7, h8⟩ := H
 rw [hx] at h7
 rw [hy] at h8
 have C1 := Lib.hid (rsq h1 h2 h3 h4 h7 h8 hx hy hz)
 clear h1 h2 h3 h4 h5 h6 h7 h8 hx hy hz
 go_enter Tryz.func105, Tryz.ntmps105
 go_wp2_with (first
  | ((with_reducible refine (C1.out _).mono ?_); rintro e w1 ⟨rfl, g1⟩
     have zQ := zK g1 (b := w.heap.size) (vs := [.int .i32 px, .int .i32 py])
     have p0 := zI zQ 0
     have p1 := zI zQ 1
     clear zQ
     have zQ := zK g1 (b := w.heap.size + 1) (vs := [.int .i32 qx, .int .i32 qy])
     have q0 := zI zQ 0
     have q1 := zI zQ 1
     clear zQ
     have zQ := zK g1 (b := w.heap.size + 1 + 1) (vs := [.int .i32 cx, .int .i32 cy])
     have c0 := zI zQ 0
     have c1 := zI zQ 1
     clear zQ
     have zQ := zK g1 (b := w.heap.size + 1 + 1 + 1) (vs := [.int .i32 0, .int .i32 0])
     have r0 := zI zQ 0
     have r1 := zI zQ 1
     clear zQ
     have gg := kep_next (kep_more (kep_more (kep_more (kep_more (Kep.refl _ _) _) _) _) _) g1
     have sr0 := kep_some g1 (a := ⟨w.heap.size + 1 + 1 + 1, 0, none⟩) (by (repeat (first | rw [World.cell?_drew] | rw [World.cell?_alloc_past _ _ _ (by first | (simp; done) | (simp; omega))])); rw [World.cell?_alloc_at _ _ _ _ (by simp)]; rfl)
     have sr1 := kep_some g1 (a := ⟨w.heap.size + 1 + 1 + 1, 1, none⟩) (by (repeat (first | rw [World.cell?_drew] | rw [World.cell?_alloc_past _ _ _ (by first | (simp; done) | (simp; omega))])); rw [World.cell?_alloc_at _ _ _ _ (by simp)]; rfl)
     have fr0 := kep_froz g1 (a := ⟨w.heap.size + 1 + 1 + 1, 0, none⟩) (by (repeat (first | rw [World.cell?_drew] | rw [World.cell?_alloc_past _ _ _ (by first | (simp; done) | (simp; omega))])); rw [World.cell?_alloc_at _ _ _ _ (by simp)]; rfl) (by (repeat (first | rw [World.frozen?_drew] | rw [World.frozen?_alloc_past _ _ _ (by first | (simp; done) | (simp; omega))])); rw [World.frozen?_alloc_at _ _ _ _ (by simp)])
     have fr1 := kep_froz g1 (a := ⟨w.heap.size + 1 + 1 + 1, 1, none⟩) (by (repeat (first | rw [World.cell?_drew] | rw [World.cell?_alloc_past _ _ _ (by first | (simp; done) | (simp; omega))])); rw [World.cell?_alloc_at _ _ _ _ (by simp)]; rfl) (by (repeat (first | rw [World.frozen?_drew] | rw [World.frozen?_alloc_past _ _ _ (by first | (simp; done) | (simp; omega))])); rw [World.frozen?_alloc_at _ _ _ _ (by simp)])
     have zp_w1 : w.heap.size < w1.heap.size := World.block_lt_of_cell? _ _ p0
     have zq_w1 : w.heap.size + 1 < w1.heap.size := World.block_lt_of_cell? _ _ q0
     have zc_w1 : w.heap.size + 1 + 1 < w1.heap.size := World.block_lt_of_cell? _ _ c0
     have zr_w1 : w.heap.size + 1 + 1 + 1 < w1.heap.size := World.block_lt_of_cell? _ _ r0))
 exact bodyPost_ret (v := .agg #[.int .i32 px, .int .i32 py]) (by simp [results, Tryz.results105, go_sem, r0, r1]) rfl ⟨rfl, by repeat first | exact gg | refine kep_set ?_ (by first | (simp; done) | (simp; omega)) _⟩
theorem rne_pos {px py qx qy cx cy dx dy ux uy n d x y sx sy : Int} (H : Rg px py qx qy cx cy) (hx : qx - px = dx) (hy : qy - py = dy) (hu : cx - px = ux) (hv : cy - py = uy) (hd : sqP dx dy = d) (hz : d ≠ 0) (hn : paP ux uy dx dy = n) (h9 : stP dx n d = sx) (h10 : stP dy n d = sy) (hX : px + sx = x) (hY : py + sy = y) : RNe px py qx qy cx cy x y := fun w => by
 have C2 := Lib.hid (rpa H hx hy hu hv hn)
 obtain ⟨h1, h2, h3, h4, h5, h6, h7, h8⟩ := H
 rw [hx] at h7
 rw [hy] at h8
 have C1 := Lib.hid (rsq h1 h2 h3 h4 h7 h8 hx hy hd)
 have hnn := paP_in ux uy dx dy
 rw [hn, hd] at hnn
 have hdd := (sqP_dn h7 h8).2
 rw [hd] at hdd
 have m1 := mdv_st (show 0 < d by omega) hnn.1 hnn.2 h7
 have m2 := mdv_st (show 0 < d by omega) hnn.1 hnn.2 h8
 have b1 := st_box hnn.1 hnn.2 hx
 have b2 := st_box hnn.1 hnn.2 hy
 have b3 := stP_in (dx := dx) hnn.1 hnn.2
 have b4 := stP_in (dx := dy) hnn.1 hnn.2
 rw [h9] at m1 b1 b3
 rw [h10] at m2 b2 b4
 have C3 : Hid (∀ w, Calls Tryz.prog 133 #[.int .i64 dx, .int .i64 n, .int .i64 d] w fun e w' => e = .returned (.tuple #[.int .i64 sx, .int .i64 0]) ∧ Kep w.heap.size w w') := Lib.hid (fun w => by rw [← m1.1, ← m1.2]; exact kep_calls (refmd_any dx n d (by unfold I64; omega) (by unfold I64; omega) (by unfold I64; omega) w))
 have C4 : Hid (∀ w, Calls Tryz.prog 133 #[.int .i64 dy, .int .i64 n, .int .i64 d] w fun e w' => e = .returned (.tuple #[.int .i64 sy, .int .i64 0]) ∧ Kep w.heap.size w w') := Lib.hid (fun w => by rw [← m2.1, ← m2.2]; exact kep_calls (refmd_any dy n d (by unfold I64; omega) (by unfold I64; omega) (by unfold I64; omega) w))
 have e0 : IntKind.i64.wrap px = px := by rw [IntKind.wrap_i64]; omega
 have e1 : IntKind.i64.wrap py = py := by rw [IntKind.wrap_i64]; omega
 have e2 : IntKind.i64.wrap qx = qx := by rw [IntKind.wrap_i64]; omega
 have e3 : IntKind.i64.wrap qy = qy := by rw [IntKind.wrap_i64]; omega
 have e4 : IntKind.i64.wrap cx = cx := by rw [IntKind.wrap_i64]; omega
 have e5 : IntKind.i64.wrap cy = cy := by rw [IntKind.wrap_i64]; omega
 have f0 : IntKind.i64.wrap (qx - px) = dx := by rw [IntKind.wrap_i64]; omega
 have f1 : IntKind.i64.wrap (qy - py) = dy := by rw [IntKind.wrap_i64]; omega
 have f2 : IntKind.i32.wrap sx = sx := by rw [IntKind.wrap_i32]; omega
 have f3 : IntKind.i32.wrap sy = sy := by rw [IntKind.wrap_i32]; omega
 have f4 : IntKind.i32.wrap (px + sx) = x := by rw [IntKind.wrap_i32]; omega
 have f5 : IntKind.i32.wrap (py + sy) = y := by rw [IntKind.wrap_i32]; omega
 have hz0 : (d == 0) = false := by simp; omega
 clear h1 h2 h3 h4 h5 h6 h7 h8 hx hy hu hv hn hd hz h9 h10 hX hY m1 m2 b1 b2 b3 b4 hdd hnn
 go_enter Tryz.func105, Tryz.ntmps105
 go_wp2_with (first
  | ((with_reducible refine (C1.out _).mono ?_); rintro e w1 ⟨rfl, g1⟩
     have zQ := zK g1 (b := w.heap.size) (vs := [.int .i32 px, .int .i32 py])
     have p0 := zI zQ 0
     have p1 := zI zQ 1
     clear zQ
     have zQ := zK g1 (b := w.heap.size + 1) (vs := [.int .i32 qx, .int .i32 qy])
     have q0 := zI zQ 0
     have q1 := zI zQ 1
     clear zQ
     have zQ := zK g1 (b := w.heap.size + 1 + 1) (vs := [.int .i32 cx, .int .i32 cy])
     have c0 := zI zQ 0
     have c1 := zI zQ 1
     clear zQ
     have zQ := zK g1 (b := w.heap.size + 1 + 1 + 1) (vs := [.int .i32 0, .int .i32 0])
     have r0 := zI zQ 0
     have r1 := zI zQ 1
     clear zQ
     have gg := kep_next (kep_more (kep_more (kep_more (kep_more (Kep.refl _ _) _) _) _) _) g1
     have sr0 := kep_some g1 (a := ⟨w.heap.size + 1 + 1 + 1, 0, none⟩) (by (repeat (first | rw [World.cell?_drew] | rw [World.cell?_alloc_past _ _ _ (by first | (simp; done) | (simp; omega))])); rw [World.cell?_alloc_at _ _ _ _ (by simp)]; rfl)
     have sr1 := kep_some g1 (a := ⟨w.heap.size + 1 + 1 + 1, 1, none⟩) (by (repeat (first | rw [World.cell?_drew] | rw [World.cell?_alloc_past _ _ _ (by first | (simp; done) | (simp; omega))])); rw [World.cell?_alloc_at _ _ _ _ (by simp)]; rfl)
     have fr0 := kep_froz g1 (a := ⟨w.heap.size + 1 + 1 + 1, 0, none⟩) (by (repeat (first | rw [World.cell?_drew] | rw [World.cell?_alloc_past _ _ _ (by first | (simp; done) | (simp; omega))])); rw [World.cell?_alloc_at _ _ _ _ (by simp)]; rfl) (by (repeat (first | rw [World.frozen?_drew] | rw [World.frozen?_alloc_past _ _ _ (by first | (simp; done) | (simp; omega))])); rw [World.frozen?_alloc_at _ _ _ _ (by simp)])
     have fr1 := kep_froz g1 (a := ⟨w.heap.size + 1 + 1 + 1, 1, none⟩) (by (repeat (first | rw [World.cell?_drew] | rw [World.cell?_alloc_past _ _ _ (by first | (simp; done) | (simp; omega))])); rw [World.cell?_alloc_at _ _ _ _ (by simp)]; rfl) (by (repeat (first | rw [World.frozen?_drew] | rw [World.frozen?_alloc_past _ _ _ (by first | (simp; done) | (simp; omega))])); rw [World.frozen?_alloc_at _ _ _ _ (by simp)])
     have zp_w1 : w.heap.size < w1.heap.size := World.block_lt_of_cell? _ _ p0
     have zq_w1 : w.heap.size + 1 < w1.heap.size := World.block_lt_of_cell? _ _ q0
     have zc_w1 : w.heap.size + 1 + 1 < w1.heap.size := World.block_lt_of_cell? _ _ c0
     have zr_w1 : w.heap.size + 1 + 1 + 1 < w1.heap.size := World.block_lt_of_cell? _ _ r0)
  | ((with_reducible refine (C2.out _).mono ?_); rintro e w2 ⟨rfl, g2⟩
     replace fr0 := kep_froz g2 sr0 fr0
     replace sr0 := kep_some g2 sr0
     replace fr1 := kep_froz g2 sr1 fr1
     replace sr1 := kep_some g2 sr1
     replace p0 := g2.all p0
     replace p1 := g2.all p1
     replace q0 := g2.all q0
     replace q1 := g2.all q1
     replace c0 := g2.all c0
     replace c1 := g2.all c1
     replace r0 := g2.all r0
     replace r1 := g2.all r1
     replace gg := kep_next gg g2
     have zp_w2 : w.heap.size < w2.heap.size := World.block_lt_of_cell? _ _ p0
     have zq_w2 : w.heap.size + 1 < w2.heap.size := World.block_lt_of_cell? _ _ q0
     have zc_w2 : w.heap.size + 1 + 1 < w2.heap.size := World.block_lt_of_cell? _ _ c0
     have zr_w2 : w.heap.size + 1 + 1 + 1 < w2.heap.size := World.block_lt_of_cell? _ _ r0)
  | ((with_reducible refine (C3.out _).mono ?_); rintro e w3 ⟨rfl, g3⟩
     replace fr0 := kep_froz g3 sr0 fr0
     replace sr0 := kep_some g3 sr0
     replace fr1 := kep_froz g3 sr1 fr1
     replace sr1 := kep_some g3 sr1
     replace p0 := g3.all p0
     replace p1 := g3.all p1
     replace q0 := g3.all q0
     replace q1 := g3.all q1
     replace c0 := g3.all c0
     replace c1 := g3.all c1
     replace r0 := g3.all r0
     replace r1 := g3.all r1
     replace gg := kep_next gg g3
     have zp_w3 : w.heap.size < w3.heap.size := World.block_lt_of_cell? _ _ p0
     have zq_w3 : w.heap.size + 1 < w3.heap.size := World.block_lt_of_cell? _ _ q0
     have zc_w3 : w.heap.size + 1 + 1 < w3.heap.size := World.block_lt_of_cell? _ _ c0
     have zr_w3 : w.heap.size + 1 + 1 + 1 < w3.heap.size := World.block_lt_of_cell? _ _ r0)
  | ((with_reducible refine (C4.out _).mono ?_); rintro e w4 ⟨rfl, g4⟩
     replace fr0 := kep_froz g4 sr0 fr0
     replace sr0 := kep_some g4 sr0
     replace fr1 := kep_froz g4 sr1 fr1
     replace sr1 := kep_some g4 sr1
     replace p0 := g4.all p0
     replace p1 := g4.all p1
     replace q0 := g4.all q0
     replace q1 := g4.all q1
     replace c0 := g4.all c0
     replace c1 := g4.all c1
     replace r0 := g4.all r0
     replace r1 := g4.all r1
     replace gg := kep_next gg g4
     have zp_w4 : w.heap.size < w4.heap.size := World.block_lt_of_cell? _ _ p0
     have zq_w4 : w.heap.size + 1 < w4.heap.size := World.block_lt_of_cell? _ _ q0
     have zc_w4 : w.heap.size + 1 + 1 < w4.heap.size := World.block_lt_of_cell? _ _ c0
     have zr_w4 : w.heap.size + 1 + 1 + 1 < w4.heap.size := World.block_lt_of_cell? _ _ r0))
 exact bodyPost_ret (v := .agg #[.int .i32 x, .int .i32 y]) (by simp [results, Tryz.results105, go_sem, r0, r1]) rfl ⟨rfl, by repeat first | exact gg | refine kep_set ?_ (by first | (simp; done) | (simp; omega)) _⟩
structure Pt (px py qx qy cx cy dx dy ux uy d n x y t : Int) : Prop where
 hx : qx - px = dx
 hy : qy - py = dy
 hu : cx - px = ux
 hv : cy - py = uy
 hd : sqP dx dy = d
 hn : paP ux uy dx dy = n
 hX : px + stP dx n d = x
 hY : py + stP dy n d = y
 ht : lsq (x - cx) (y - cy) = t
theorem Pt.par {px py qx qy cx cy dx dy ux uy d n x y t : Int} (P : Pt px py qx qy cx cy dx dy ux uy d n x y t) : 0 ≤ n ∧ n ≤ d := by
 have := paP_in ux uy dx dy
 rw [P.hn, P.hd] at this
 exact this
theorem Pt.box {px py qx qy cx cy dx dy ux uy d n x y t : Int} (P : Pt px py qx qy cx cy dx dy ux uy d n x y t) : (min px qx ≤ x ∧ x ≤ max px qx) ∧ (min py qy ≤ y ∧ y ≤ max py qy) := by
 have h := P.par
 have h1 := st_box h.1 h.2 P.hx
 have h2 := st_box h.1 h.2 P.hy
 rw [P.hX] at h1
 rw [P.hY] at h2
 exact ⟨h1, h2⟩
theorem Pt.ind {px py qx qy cx cy dx dy ux uy d n x y t : Int} (P : Pt px py qx qy cx cy dx dy ux uy d n x y t) (H : Rg px py qx qy cx cy) : InD (x - cx) ∧ InD (y - cy) := by
 obtain ⟨h1, h2⟩ := P.box
 obtain ⟨a1, a2, a3, a4, a5, a6, _, _⟩ := H
 unfold InD
 omega
theorem Pt.cne {px py qx qy cx cy dx dy ux uy d n x y t : Int} (P : Pt px py qx qy cx cy dx dy ux uy d n x y t) (H : Rg px py qx qy cx cy) : RNe px py qx qy cx cy x y := by
 by_cases hz : d = 0
 ·have h1 := P.hX
  have h2 := P.hY
  unfold stP at h1 h2
  rw [if_pos hz] at h1 h2
  rw [← h1, ← h2, Int.add_zero, Int.add_zero]
  exact rne_zero H P.hx P.hy (by rw [P.hd]; exact hz)
 ·exact rne_pos H P.hx P.hy P.hu P.hv P.hd hz P.hn rfl rfl P.hX P.hY
def inB (x y : Int) : Bool := decide (Cin x ∧ Cin y)
def rgB (px py qx qy cx cy : Int) : Bool := inB px py && inB qx qy && inB cx cy && decide (Din (qx - px) ∧ Din (qy - py))
theorem rgB_iff {px py qx qy cx cy : Int} : rgB px py qx qy cx cy = true ↔ Rg px py qx qy cx cy := by
 unfold rgB inB
 simp only [Bool.and_eq_true, decide_eq_true_iff]
 constructor
 ·rintro ⟨⟨⟨⟨h1, h2⟩, h3, h4⟩, h5, h6⟩, h7, h8⟩
  exact ⟨h1, h2, h3, h4, h5, h6, h7, h8⟩
 ·rintro ⟨h1, h2, h3, h4, h5, h6, h7, h8⟩
  exact ⟨⟨⟨⟨h1, h2⟩, h3, h4⟩, h5, h6⟩, h7, h8⟩
structure Good (x : Tw) : Prop where
 a : Cin x.a
 b : Cin x.b
 c : Cin x.c
 d : Cin x.d
 t : x.t = sq2 (x.c - x.a) (x.d - x.b)
theorem good_pk {x y : Tw} (hx : Good x) (hy : Good y) : Good (pk x y) := by
 rcases pk_or x y with q | q <;> rw [q] <;> assumption
theorem good_mk {a b c d : Int} (h1 : Cin a) (h2 : Cin b) (h3 : Cin c) (h4 : Cin d) : Good (mkT a b c d) := ⟨h1, h2, h3, h4, rfl⟩
abbrev RD2 (a b c d t : Int) : Prop := ∀ w, Calls Tryz.prog 66 #[.agg #[.int .i32 a, .int .i32 b, .int .i32 c, .int .i32 d]] w fun e w' => e = .returned (.int .u64 t) ∧ Kep w.heap.size w w'
abbrev RCh (px py qx qy mx my nx ny : Int) (x : Tw) : Prop := ∀ w, Calls Tryz.prog 83 #[.agg #[.int .i32 px, .int .i32 py], .agg #[.int .i32 qx, .int .i32 qy], .agg #[.int .i32 mx, .int .i32 my], .agg #[.int .i32 nx, .int .i32 ny]] w fun e w' => e = .returned (.agg #[.int .i32 x.a, .int .i32 x.b, .int .i32 x.c, .int .i32 x.d]) ∧ Kep w.heap.size w w'
theorem rd2 {a b c d t : Int} (h1 : Cin a) (h2 : Cin b) (h3 : Cin c) (h4 : Cin d) (ht : sq2 (c - a) (d - b) = t) : RD2 a b c d t := fun w => by
 have C := Lib.hid (rlsq2 (a := c - a) (b := d - b) (by unfold Cin at *; unfold InD; omega) (by unfold Cin at *; unfold InD; omega) ht)
 have e0 : IntKind.i64.wrap a = a := by rw [IntKind.wrap_i64]; omega
 have e1 : IntKind.i64.wrap b = b := by rw [IntKind.wrap_i64]; omega
 have e2 : IntKind.i64.wrap c = c := by rw [IntKind.wrap_i64]; omega
 have e3 : IntKind.i64.wrap d = d := by rw [IntKind.wrap_i64]; omega
 have e4 : IntKind.i64.wrap (c - a) = c - a := by rw [IntKind.wrap_i64]; omega
 have e5 : IntKind.i64.wrap (d - b) = d - b := by rw [IntKind.wrap_i64]; omega
 clear h1 h2 h3 h4 ht
 go_enter Tryz.func66, Tryz.ntmps66
 go_wp2_with (first
  | ((with_reducible refine (C.out _).mono ?_); rintro e w2 ⟨rfl, rfl⟩))
 go_ret
 exact ⟨rfl, (kep_more (Kep.refl _ _) _)⟩
theorem Good.rd {x : Tw} (h : Good x) : RD2 x.a x.b x.c x.d x.t := rd2 h.a h.b h.c h.d h.t.symm
def sgB (px py qx qy mx my nx ny : Int) : Bool := rgB px py qx qy mx my && rgB mx my nx ny px py
theorem sg_of {px py qx qy mx my nx ny : Int} (h : sgB px py qx qy mx my nx ny = true) : Rg px py qx qy mx my ∧ Rg mx my nx ny px py := by
 unfold sgB at h
 rw [Bool.and_eq_true] at h
 exact ⟨rgB_iff.1 h.1, rgB_iff.1 h.2⟩
theorem rneF {px py qx qy cx cy : Int} (H : Rg px py qx qy cx cy) : RNe px py qx qy cx cy (nX px py qx qy cx cy) (nY px py qx qy cx cy) := Pt.cne ⟨rfl, rfl, rfl, rfl, rfl, rfl, rfl, rfl, rfl⟩ H
theorem nX_cin {px py qx qy cx cy : Int} (H : Rg px py qx qy cx cy) : Cin (nX px py qx qy cx cy) ∧ Cin (nY px py qx qy cx cy) := by
 have P : Pt px py qx qy cx cy (qx - px) (qy - py) (cx - px) (cy - py) _ _ (nX px py qx qy cx cy) (nY px py qx qy cx cy) _ := ⟨rfl, rfl, rfl, rfl, rfl, rfl, rfl, rfl, rfl⟩
 obtain ⟨h1, h2⟩ := P.box
 obtain ⟨a1, a2, a3, a4, _, _, _, _⟩ := H
 unfold Cin at *
 omega
theorem sg_rg {px py qx qy mx my nx ny : Int} (h : sgB px py qx qy mx my nx ny = true) : Rg mx my nx ny px py ∧ Rg mx my nx ny qx qy ∧ Rg px py qx qy mx my ∧ Rg px py qx qy nx ny := by
 obtain ⟨⟨h1, h2, h3, h4, h5, h6, h7, h8⟩, h9, h10, h11, h12, _, _, h13, h14⟩ := sg_of h
 exact ⟨⟨h9, h10, h11, h12, h1, h2, h13, h14⟩, ⟨h9, h10, h11, h12, h3, h4, h13, h14⟩, ⟨h1, h2, h3, h4, h5, h6, h7, h8⟩, ⟨h1, h2, h3, h4, h11, h12, h7, h8⟩⟩
theorem sg_good {px py qx qy mx my nx ny : Int} (h : sgB px py qx qy mx my nx ny = true) : Good (tw0 px py qx qy mx my nx ny) ∧ Good (tw1 px py qx qy mx my nx ny) ∧ Good (tw2 px py qx qy mx my nx ny) ∧ Good (tw3 px py qx qy mx my nx ny) := by
 obtain ⟨h0, h1, h2, h3⟩ := sg_rg h
 exact ⟨good_mk h0.hcx h0.hcy (nX_cin h0).1 (nX_cin h0).2, good_mk h1.hcx h1.hcy (nX_cin h1).1 (nX_cin h1).2, good_mk (nX_cin h2).1 (nX_cin h2).2 h2.hcx h2.hcy, good_mk (nX_cin h3).1 (nX_cin h3).2 h3.hcx h3.hcy⟩
theorem sg_chs {px py qx qy mx my nx ny : Int} (h : sgB px py qx qy mx my nx ny = true) : Good (chs px py qx qy mx my nx ny) := by
 obtain ⟨h0, h1, h2, h3⟩ := sg_good h
 exact good_pk (good_pk (good_pk h0 h1) h2) h3
def bsK (E0 E1 E2 E3 : Tw) : Nat → Tw
 | 0 => E0
 | 1 => E0
 | 2 => pk E0 E1
 | 3 => pk (pk E0 E1) E2
 | _ => pk (pk (pk E0 E1) E2) E3
structure Bc (w : World) (b : Nat) (x : Tw) : Prop where
 c0 : w.cell? ⟨b, 0, none⟩ = some (.int .i32 x.a)
 c1 : w.cell? ⟨b, 1, none⟩ = some (.int .i32 x.b)
 c2 : w.cell? ⟨b, 2, none⟩ = some (.int .i32 x.c)
 c3 : w.cell? ⟨b, 3, none⟩ = some (.int .i32 x.d)
 f : ∀ j, w.frozen? ⟨b, j, none⟩ = false
theorem Bc.kep {w w' : World} {b : Nat} {x : Tw} (h : Bc w b x) (g : Kep w.heap.size w w') : Bc w' b x := ⟨g.all h.c0, g.all h.c1, g.all h.c2, g.all h.c3, fun j => (g.frozen (p := ⟨b, j, none⟩) (World.block_lt_of_cell? w ⟨b, 0, none⟩ h.c0)).trans (h.f j)⟩
theorem Bc.set {w : World} {b : Nat} {x : Tw} (h : Bc w b x) (y : Tw) : Bc ((((w.setCell ⟨b, 0, none⟩ (.int .i32 y.a)).setCell ⟨b, 1, none⟩ (.int .i32 y.b)).setCell ⟨b, 2, none⟩ (.int .i32 y.c)).setCell ⟨b, 3, none⟩ (.int .i32 y.d)) b y := by
 refine ⟨?_, ?_, ?_, ?_, fun j => by rw [World.frozen?_setCell, World.frozen?_setCell, World.frozen?_setCell, World.frozen?_setCell]; exact h.f j⟩
 ·exact (World.cell?_setCell_other _ _ _ _ (by simp)).trans ((World.cell?_setCell_other _ _ _ _ (by simp)).trans ((World.cell?_setCell_other _ _ _ _ (by simp)).trans (World.cell?_setCell_same _ _ _ h.c0)))
 ·exact (World.cell?_setCell_other _ _ _ _ (by simp)).trans ((World.cell?_setCell_other _ _ _ _ (by simp)).trans (World.cell?_setCell_same _ _ _ ((World.cell?_setCell_other _ _ _ _ (by simp)).trans h.c1)))
 ·exact (World.cell?_setCell_other _ _ _ _ (by simp)).trans (World.cell?_setCell_same _ _ _ ((World.cell?_setCell_other _ _ _ _ (by simp)).trans ((World.cell?_setCell_other _ _ _ _ (by simp)).trans h.c2)))
 ·exact World.cell?_setCell_same _ _ _ ((World.cell?_setCell_other _ _ _ _ (by simp)).trans ((World.cell?_setCell_other _ _ _ _ (by simp)).trans ((World.cell?_setCell_other _ _ _ _ (by simp)).trans h.c3)))
theorem pk_less {u v : Tw} (h : decide (v.t < u.t) = true) : pk u v = v := if_pos (of_decide_eq_true h)
theorem pk_not {u v : Tw} (h : decide (v.t < u.t) = false) : pk u v = u := if_neg (of_decide_eq_false h)
theorem rch_go {px py qx qy mx my nx ny x0 y0 x1 y1 x2 y2 x3 y3 t0 t1 t2 t3 : Int} (N0 : Hid (RNe mx my nx ny px py x0 y0)) (N1 : Hid (RNe mx my nx ny qx qy x1 y1)) (N2 : Hid (RNe px py qx qy mx my x2 y2)) (N3 : Hid (RNe px py qx qy nx ny x3 y3))
 (G0 : Hid (Good (⟨px, py, x0, y0, t0⟩ : Tw))) (G1 : Hid (Good (⟨qx, qy, x1, y1, t1⟩ : Tw))) (G2 : Hid (Good (⟨x2, y2, mx, my, t2⟩ : Tw))) (G3 : Hid (Good (⟨x3, y3, nx, ny, t3⟩ : Tw))) : RCh px py qx qy mx my nx ny (bsK (⟨px, py, x0, y0, t0⟩ : Tw) (⟨qx, qy, x1, y1, t1⟩ : Tw) (⟨x2, y2, mx, my, t2⟩ : Tw) (⟨x3, y3, nx, ny, t3⟩ : Tw) 4) := fun w => by
 go_enter Tryz.func83, Tryz.ntmps83
 go_wp2_with fail
 obtain ⟨W0, hW0⟩ : ∃ z9, z9 = ((((w.alloc (.cells #[.int .i32 px, .int .i32 py] 38)).alloc (.cells #[.int .i32 qx, .int .i32 qy] 38)).alloc (.cells #[.int .i32 mx, .int .i32 my] 38)).alloc (.cells #[.int .i32 nx, .int .i32 ny] 38)).alloc (.cells #[.int .i32 0, .int .i32 0, .int .i32 0, .int .i32 0] 109) := ⟨_, rfl⟩
 rw [← hW0]
 have K0 := Lib.hid (show Kep w.heap.size w W0 by rw [hW0]; exact (kep_more (kep_more (kep_more (kep_more (kep_more (Kep.refl _ _) _) _) _) _) _))
 have HR : Hid (Bc W0 (w.heap.size + 1 + 1 + 1 + 1) ⟨0, 0, 0, 0, 0⟩) := Lib.hid (by
  rw [hW0]
  exact ⟨by rw [World.cell?_alloc_at _ _ _ _ (by simp)]; rfl, by rw [World.cell?_alloc_at _ _ _ _ (by simp)]; rfl, by rw [World.cell?_alloc_at _ _ _ _ (by simp)]; rfl, by rw [World.cell?_alloc_at _ _ _ _ (by simp)]; rfl, fun j => by rw [World.frozen?_alloc_at _ _ _ _ (by simp)]⟩)
 have p0 : W0.cell? ⟨w.heap.size, 0, none⟩ = some (.int .i32 px) := by rw [hW0]; (repeat (first | rw [World.cell?_alloc_past _ _ _ (by first | (simp; done) | (simp; omega))])); rw [World.cell?_alloc_at _ _ _ _ (by simp)]; rfl
 have p1 : W0.cell? ⟨w.heap.size, 1, none⟩ = some (.int .i32 py) := by rw [hW0]; (repeat (first | rw [World.cell?_alloc_past _ _ _ (by first | (simp; done) | (simp; omega))])); rw [World.cell?_alloc_at _ _ _ _ (by simp)]; rfl
 have q0 : W0.cell? ⟨w.heap.size + 1, 0, none⟩ = some (.int .i32 qx) := by rw [hW0]; (repeat (first | rw [World.cell?_alloc_past _ _ _ (by first | (simp; done) | (simp; omega))])); rw [World.cell?_alloc_at _ _ _ _ (by simp)]; rfl
 have q1 : W0.cell? ⟨w.heap.size + 1, 1, none⟩ = some (.int .i32 qy) := by rw [hW0]; (repeat (first | rw [World.cell?_alloc_past _ _ _ (by first | (simp; done) | (simp; omega))])); rw [World.cell?_alloc_at _ _ _ _ (by simp)]; rfl
 have m0 : W0.cell? ⟨w.heap.size + 1 + 1, 0, none⟩ = some (.int .i32 mx) := by rw [hW0]; (repeat (first | rw [World.cell?_alloc_past _ _ _ (by first | (simp; done) | (simp; omega))])); rw [World.cell?_alloc_at _ _ _ _ (by simp)]; rfl
 have m1 : W0.cell? ⟨w.heap.size + 1 + 1, 1, none⟩ = some (.int .i32 my) := by rw [hW0]; (repeat (first | rw [World.cell?_alloc_past _ _ _ (by first | (simp; done) | (simp; omega))])); rw [World.cell?_alloc_at _ _ _ _ (by simp)]; rfl
 have n0 : W0.cell? ⟨w.heap.size + 1 + 1 + 1, 0, none⟩ = some (.int .i32 nx) := by rw [hW0]; (repeat (first | rw [World.cell?_alloc_past _ _ _ (by first | (simp; done) | (simp; omega))])); rw [World.cell?_alloc_at _ _ _ _ (by simp)]; rfl
 have n1 : W0.cell? ⟨w.heap.size + 1 + 1 + 1, 1, none⟩ = some (.int .i32 ny) := by rw [hW0]; (repeat (first | rw [World.cell?_alloc_past _ _ _ (by first | (simp; done) | (simp; omega))])); rw [World.cell?_alloc_at _ _ _ _ (by simp)]; rfl
 clear hW0
 refine wp_region_noPanic ?_
 refine wp_region_held_drew (S := (fun w' => w'.cell? ⟨w.heap.size, 0, none⟩ = some (.int .i32 px) ∧ w'.cell? ⟨w.heap.size, 1, none⟩ = some (.int .i32 py) ∧ w'.cell? ⟨w.heap.size + 1, 0, none⟩ = some (.int .i32 qx) ∧ w'.cell? ⟨w.heap.size + 1, 1, none⟩ = some (.int .i32 qy) ∧ w'.cell? ⟨w.heap.size + 1 + 1, 0, none⟩ = some (.int .i32 mx) ∧ w'.cell? ⟨w.heap.size + 1 + 1, 1, none⟩ = some (.int .i32 my) ∧ w'.cell? ⟨w.heap.size + 1 + 1 + 1, 0, none⟩ = some (.int .i32 nx) ∧ w'.cell? ⟨w.heap.size + 1 + 1 + 1, 1, none⟩ = some (.int .i32 ny) ∧ Kep W0.heap.size W0 w')) (by kernel_rfl) (⟨by rw [World.cell?_drew]; exact p0, by rw [World.cell?_drew]; exact p1, by rw [World.cell?_drew]; exact q0, by rw [World.cell?_drew]; exact q1, by rw [World.cell?_drew]; exact m0, by rw [World.cell?_drew]; exact m1, by rw [World.cell?_drew]; exact n0, by rw [World.cell?_drew]; exact n1, kep_drew (Kep.refl _ _)⟩) (fun hH => ?_)
 refine sT 0 hH ?_
 refine sT 1 hH ?_
 refine sT 2 hH ?_
 refine sN 3 hH ?_
 refine sT 6 hH ?_
 refine sT 7 hH ?_
 refine sT 8 hH ?_
 refine sN 9 hH ?_
 refine sT 12 hH ?_
 refine sT 13 hH ?_
 refine sT 14 hH ?_
 refine sN 16 hH ?_
 refine sT 18 hH ?_
 refine sT 19 hH ?_
 refine sT 20 hH ?_
 refine sN 22 hH ?_
 refine sC 4 (fun K hK => ?_)
 go_simp
 (with_reducible refine (N0.out _).mono ?_); rintro e v1_4 ⟨rfl, g⟩
 refine hK.out _ _ (by (try dsimp only); (go_split_ands; and_intros <;> first | exact g.all (by assumption) | exact kep_next (by assumption) g)) (fun hH2 => ?_)
 clear hK K hH; have hH := hH2; clear hH2
 refine sN 5 hH ?_
 refine sC 10 (fun K hK => ?_)
 go_simp
 (with_reducible refine (N1.out _).mono ?_); rintro e v1_10 ⟨rfl, g⟩
 refine hK.out _ _ (by (try dsimp only); (go_split_ands; and_intros <;> first | exact g.all (by assumption) | exact kep_next (by assumption) g)) (fun hH2 => ?_)
 clear hK K hH; have hH := hH2; clear hH2
 refine sN 11 hH ?_
 refine sC 15 (fun K hK => ?_)
 go_simp
 (with_reducible refine (N2.out _).mono ?_); rintro e v1_15 ⟨rfl, g⟩
 refine hK.out _ _ (by (try dsimp only); (go_split_ands; and_intros <;> first | exact g.all (by assumption) | exact kep_next (by assumption) g)) (fun hH2 => ?_)
 clear hK K hH; have hH := hH2; clear hH2
 refine sN 17 hH ?_
 refine sC 21 (fun K hK => ?_)
 go_simp
 (with_reducible refine (N3.out _).mono ?_); rintro e v1_21 ⟨rfl, g⟩
 refine hK.out _ _ (by (try dsimp only); (go_split_ands; and_intros <;> first | exact g.all (by assumption) | exact kep_next (by assumption) g)) (fun hH2 => ?_)
 clear hK K hH; have hH := hH2; clear hH2
 refine sN 23 hH ?_
 refine sC 24 (fun K hK => ?_)
 go_simp
 refine hK.out _ _ (by (try dsimp only); (go_split_ands; exact ⟨Kep.all (kep_more (Kep.refl _ _) _) (by assumption), Kep.all (kep_more (Kep.refl _ _) _) (by assumption), Kep.all (kep_more (Kep.refl _ _) _) (by assumption), Kep.all (kep_more (Kep.refl _ _) _) (by assumption), Kep.all (kep_more (Kep.refl _ _) _) (by assumption), Kep.all (kep_more (Kep.refl _ _) _) (by assumption), Kep.all (kep_more (Kep.refl _ _) _) (by assumption), Kep.all (kep_more (Kep.refl _ _) _) (by assumption), kep_more (by assumption) _⟩)) (fun hH2 => ?_)
 clear hK K hH; have hH := hH2; clear hH2
 refine sN 25 hH ?_
 refine sE ?_
 clear p0 p1 q0 q1 m0 m1 n0 n1
 obtain ⟨p0, p1, q0, q1, m0, m1, n0, n1, gg⟩ := hH
 obtain ⟨V, hV⟩ : ∃ z9, z9 = v1_21 := ⟨_, rfl⟩
 rw [← hV] at gg ⊢
 clear p0 p1 q0 q1 m0 m1 n0 n1 hV
 obtain ⟨W1, hW1⟩ : ∃ z9, z9 = V.alloc (.cells #[.int .i32 px, .int .i32 py, .int .i32 x0, .int .i32 y0, .int .i32 qx, .int .i32 qy, .int .i32 x1, .int .i32 y1, .int .i32 x2, .int .i32 y2, .int .i32 mx, .int .i32 my, .int .i32 x3, .int .i32 y3, .int .i32 nx, .int .i32 ny] 109) := ⟨_, rfl⟩
 rw [← hW1] at gg ⊢
 have KV := Lib.hid (show Kep V.heap.size V W1 by rw [hW1]; exact kep_more (Kep.refl _ _) _)
 have H0_0 : Hid (W1.cell? ⟨V.heap.size, 0, none⟩ = some (.int .i32 px)) := Lib.hid (by rw [hW1, World.cell?_alloc_at _ _ _ _ (by simp)]; rfl)
 have H0_1 : Hid (W1.cell? ⟨V.heap.size, 1, none⟩ = some (.int .i32 py)) := Lib.hid (by rw [hW1, World.cell?_alloc_at _ _ _ _ (by simp)]; rfl)
 have H0_2 : Hid (W1.cell? ⟨V.heap.size, 2, none⟩ = some (.int .i32 x0)) := Lib.hid (by rw [hW1, World.cell?_alloc_at _ _ _ _ (by simp)]; rfl)
 have H0_3 : Hid (W1.cell? ⟨V.heap.size, 3, none⟩ = some (.int .i32 y0)) := Lib.hid (by rw [hW1, World.cell?_alloc_at _ _ _ _ (by simp)]; rfl)
 have H1_0 : Hid (W1.cell? ⟨V.heap.size, 4, none⟩ = some (.int .i32 qx)) := Lib.hid (by rw [hW1, World.cell?_alloc_at _ _ _ _ (by simp)]; rfl)
 have H1_1 : Hid (W1.cell? ⟨V.heap.size, 5, none⟩ = some (.int .i32 qy)) := Lib.hid (by rw [hW1, World.cell?_alloc_at _ _ _ _ (by simp)]; rfl)
 have H1_2 : Hid (W1.cell? ⟨V.heap.size, 6, none⟩ = some (.int .i32 x1)) := Lib.hid (by rw [hW1, World.cell?_alloc_at _ _ _ _ (by simp)]; rfl)
 have H1_3 : Hid (W1.cell? ⟨V.heap.size, 7, none⟩ = some (.int .i32 y1)) := Lib.hid (by rw [hW1, World.cell?_alloc_at _ _ _ _ (by simp)]; rfl)
 have H2_0 : Hid (W1.cell? ⟨V.heap.size, 8, none⟩ = some (.int .i32 x2)) := Lib.hid (by rw [hW1, World.cell?_alloc_at _ _ _ _ (by simp)]; rfl)
 have H2_1 : Hid (W1.cell? ⟨V.heap.size, 9, none⟩ = some (.int .i32 y2)) := Lib.hid (by rw [hW1, World.cell?_alloc_at _ _ _ _ (by simp)]; rfl)
 have H2_2 : Hid (W1.cell? ⟨V.heap.size, 10, none⟩ = some (.int .i32 mx)) := Lib.hid (by rw [hW1, World.cell?_alloc_at _ _ _ _ (by simp)]; rfl)
 have H2_3 : Hid (W1.cell? ⟨V.heap.size, 11, none⟩ = some (.int .i32 my)) := Lib.hid (by rw [hW1, World.cell?_alloc_at _ _ _ _ (by simp)]; rfl)
 have H3_0 : Hid (W1.cell? ⟨V.heap.size, 12, none⟩ = some (.int .i32 x3)) := Lib.hid (by rw [hW1, World.cell?_alloc_at _ _ _ _ (by simp)]; rfl)
 have H3_1 : Hid (W1.cell? ⟨V.heap.size, 13, none⟩ = some (.int .i32 y3)) := Lib.hid (by rw [hW1, World.cell?_alloc_at _ _ _ _ (by simp)]; rfl)
 have H3_2 : Hid (W1.cell? ⟨V.heap.size, 14, none⟩ = some (.int .i32 nx)) := Lib.hid (by rw [hW1, World.cell?_alloc_at _ _ _ _ (by simp)]; rfl)
 have H3_3 : Hid (W1.cell? ⟨V.heap.size, 15, none⟩ = some (.int .i32 ny)) := Lib.hid (by rw [hW1, World.cell?_alloc_at _ _ _ _ (by simp)]; rfl)
 have K1 := Lib.hid gg
 have HR1 := Lib.hid (HR.out.kep gg)
 clear gg hW1 HR
 have zr : w.heap.size + 1 + 1 + 1 + 1 < W1.heap.size := World.block_lt_of_cell? _ _ HR1.out.c0
 have l0 := H0_0.out; have l1 := H0_1.out; have l2 := H0_2.out; have l3 := H0_3.out; 
 go_wp2_with fail
 obtain ⟨W2, hW2⟩ : ∃ z9, z9 = W1.alloc (.cells #[.int .i32 px, .int .i32 py, .int .i32 x0, .int .i32 y0] 109) := ⟨_, rfl⟩
 rw [← hW2]
 have HB : Hid (Bc W2 W1.heap.size (⟨px, py, x0, y0, t0⟩ : Tw) ∧ Kep W1.heap.size W1 W2) := Lib.hid (by
  rw [hW2]
  exact ⟨⟨by rw [World.cell?_alloc_at _ _ _ _ (by simp)]; rfl, by rw [World.cell?_alloc_at _ _ _ _ (by simp)]; rfl, by rw [World.cell?_alloc_at _ _ _ _ (by simp)]; rfl, by rw [World.cell?_alloc_at _ _ _ _ (by simp)]; rfl, fun j => by rw [World.frozen?_alloc_at _ _ _ _ (by simp)]⟩, kep_more (Kep.refl _ _) _⟩)
 clear hW2 l0 l1 l2 l3
 go_loopw [11] (fun i wr => ∃ k : Nat, 1 ≤ k ∧ k ≤ 4 ∧ i = .int .i64 k ∧ Hid (∃ B, B = bsK (⟨px, py, x0, y0, t0⟩ : Tw) (⟨qx, qy, x1, y1, t1⟩ : Tw) (⟨x2, y2, mx, my, t2⟩ : Tw) (⟨x3, y3, nx, ny, t3⟩ : Tw) k ∧ Good B ∧ Bc wr W1.heap.size B ∧ Kep W1.heap.size W1 wr)) (fun i _ => 4 - (RowKit.intOf i).toNat)
 case atStart => exact ⟨1, by omega, by omega, rfl, Lib.hid ⟨_, rfl, G0.out, HB.out.1, HB.out.2⟩⟩
 case round =>
  obtain ⟨k, hk1, hk4, rfl, HP⟩ := hrel
  obtain ⟨B, hB, hg, hc, hk⟩ := HP.out
  have HBe := Lib.hid hB
  have HG := Lib.hid hg
  have HBc := Lib.hid hc
  have HK := Lib.hid hk
  have RB := Lib.hid hg.rd
  clear HP hB hg hc hk HB
  by_cases hlt : k < 4
  ·rcases (show k = 1 ∨ k = 2 ∨ k = 3 by omega) with rfl | rfl | rfl
   ·have RL := Lib.hid G1.out.rd
    dsimp only at RL
    obtain ⟨z, hz⟩ : ∃ z, decide (t1 < B.t) = z := ⟨_, rfl⟩
    have l0 := HK.out.all H1_0.out
    have l1 := HK.out.all H1_1.out
    have l2 := HK.out.all H1_2.out
    have l3 := HK.out.all H1_3.out
    have b0 := HBc.out.c0
    have b1 := HBc.out.c1
    have b2 := HBc.out.c2
    have b3 := HBc.out.c3
    go_wp2_with fail
    refine wp_region_noPanic ?_
    refine wp_region_held_drew (S := (fun w' => w'.cell? ⟨V.heap.size, 4, none⟩ = some (.int .i32 qx) ∧ w'.cell? ⟨V.heap.size, 5, none⟩ = some (.int .i32 qy) ∧ w'.cell? ⟨V.heap.size, 6, none⟩ = some (.int .i32 x1) ∧ w'.cell? ⟨V.heap.size, 7, none⟩ = some (.int .i32 y1) ∧ w'.cell? ⟨W1.heap.size, 0, none⟩ = some (.int .i32 B.a) ∧ w'.cell? ⟨W1.heap.size, 1, none⟩ = some (.int .i32 B.b) ∧ w'.cell? ⟨W1.heap.size, 2, none⟩ = some (.int .i32 B.c) ∧ w'.cell? ⟨W1.heap.size, 3, none⟩ = some (.int .i32 B.d) ∧ Kep wr.heap.size wr w')) (by kernel_rfl) (⟨by rw [World.cell?_drew]; exact l0, by rw [World.cell?_drew]; exact l1, by rw [World.cell?_drew]; exact l2, by rw [World.cell?_drew]; exact l3, by rw [World.cell?_drew]; exact b0, by rw [World.cell?_drew]; exact b1, by rw [World.cell?_drew]; exact b2, by rw [World.cell?_drew]; exact b3, kep_drew (Kep.refl _ _)⟩) (fun hH => ?_)
    refine sT 0 hH ?_
    refine sT 1 hH ?_
    refine sT 2 hH ?_
    refine sN 3 hH ?_
    refine sN 5 hH ?_
    refine sC 4 (fun K hK => ?_)
    go_simp
    (with_reducible refine (RL.out _).mono ?_); rintro e v6_4 ⟨rfl, g⟩
    refine hK.out _ _ (by (try dsimp only); (go_split_ands; and_intros <;> first | exact g.all (by assumption) | exact kep_next (by assumption) g)) (fun hH2 => ?_)
    clear hK K hH; have hH := hH2; clear hH2
    try simp only [Act.put, List.setIfInBounds_toArray, List.set_cons_zero, List.set_cons_succ]
    refine sC 6 (fun K hK => ?_)
    go_simp
    (with_reducible refine (RB.out _).mono ?_); rintro e v6_6 ⟨rfl, g⟩
    refine hK.out _ _ (by (try dsimp only); (go_split_ands; and_intros <;> first | exact g.all (by assumption) | exact kep_next (by assumption) g)) (fun hH2 => ?_)
    clear hK K hH; have hH := hH2; clear hH2
    refine sN 7 hH ?_
    refine sE ?_
    clear l0 l1 l2 l3 b0 b1 b2 b3
    obtain ⟨l0, l1, l2, l3, b0, b1, b2, b3, gg⟩ := hH
    have HBc2 := Lib.hid (HBc.out.kep gg)
    have HK2 := Lib.hid (kep_next HK.out gg)
    have HZ := Lib.hid hz
    clear hz gg
    obtain ⟨wq, hwq⟩ : ∃ z9, z9 = v6_6 := ⟨_, rfl⟩
    rw [← hwq] at l0 l1 l2 l3 b0 b1 b2 b3 HBc2 HK2 ⊢
    clear hwq
    cases z
    ·go_wp2_with fail
     go_roundw
     case rel => exact ⟨2, by omega, by omega, by go_num, Lib.hid ⟨B, by rw [show bsK (⟨px, py, x0, y0, t0⟩ : Tw) (⟨qx, qy, x1, y1, t1⟩ : Tw) (⟨x2, y2, mx, my, t2⟩ : Tw) (⟨x3, y3, nx, ny, t3⟩ : Tw) 2 = pk (bsK (⟨px, py, x0, y0, t0⟩ : Tw) (⟨qx, qy, x1, y1, t1⟩ : Tw) (⟨x2, y2, mx, my, t2⟩ : Tw) (⟨x3, y3, nx, ny, t3⟩ : Tw) 1) (⟨qx, qy, x1, y1, t1⟩ : Tw) from rfl, ← HBe.out]; exact (pk_not HZ.out).symm, HG.out, HBc2.out, HK2.out⟩⟩
     case measure => simp [RowKit.intOf]
    ·have f0 := HBc2.out.f 0
     have f1 := HBc2.out.f 1
     have f2 := HBc2.out.f 2
     have f3 := HBc2.out.f 3
     go_wp2_with fail
     go_roundw
     case rel => exact ⟨2, by omega, by omega, by go_num, Lib.hid ⟨(⟨qx, qy, x1, y1, t1⟩ : Tw), by rw [show bsK (⟨px, py, x0, y0, t0⟩ : Tw) (⟨qx, qy, x1, y1, t1⟩ : Tw) (⟨x2, y2, mx, my, t2⟩ : Tw) (⟨x3, y3, nx, ny, t3⟩ : Tw) 2 = pk (bsK (⟨px, py, x0, y0, t0⟩ : Tw) (⟨qx, qy, x1, y1, t1⟩ : Tw) (⟨x2, y2, mx, my, t2⟩ : Tw) (⟨x3, y3, nx, ny, t3⟩ : Tw) 1) (⟨qx, qy, x1, y1, t1⟩ : Tw) from rfl, ← HBe.out]; exact (pk_less (v := (⟨qx, qy, x1, y1, t1⟩ : Tw)) HZ.out).symm, G1.out, HBc2.out.set (⟨qx, qy, x1, y1, t1⟩ : Tw), kep_set (kep_set (kep_set (kep_set HK2.out (Nat.le_refl _) _) (Nat.le_refl _) _) (Nat.le_refl _) _) (Nat.le_refl _) _⟩⟩
     case measure => simp [RowKit.intOf]
   ·have RL := Lib.hid G2.out.rd
    dsimp only at RL
    obtain ⟨z, hz⟩ : ∃ z, decide (t2 < B.t) = z := ⟨_, rfl⟩
    have l0 := HK.out.all H2_0.out
    have l1 := HK.out.all H2_1.out
    have l2 := HK.out.all H2_2.out
    have l3 := HK.out.all H2_3.out
    have b0 := HBc.out.c0
    have b1 := HBc.out.c1
    have b2 := HBc.out.c2
    have b3 := HBc.out.c3
    go_wp2_with fail
    refine wp_region_noPanic ?_
    refine wp_region_held_drew (S := (fun w' => w'.cell? ⟨V.heap.size, 8, none⟩ = some (.int .i32 x2) ∧ w'.cell? ⟨V.heap.size, 9, none⟩ = some (.int .i32 y2) ∧ w'.cell? ⟨V.heap.size, 10, none⟩ = some (.int .i32 mx) ∧ w'.cell? ⟨V.heap.size, 11, none⟩ = some (.int .i32 my) ∧ w'.cell? ⟨W1.heap.size, 0, none⟩ = some (.int .i32 B.a) ∧ w'.cell? ⟨W1.heap.size, 1, none⟩ = some (.int .i32 B.b) ∧ w'.cell? ⟨W1.heap.size, 2, none⟩ = some (.int .i32 B.c) ∧ w'.cell? ⟨W1.heap.size, 3, none⟩ = some (.int .i32 B.d) ∧ Kep wr.heap.size wr w')) (by kernel_rfl) (⟨by rw [World.cell?_drew]; exact l0, by rw [World.cell?_drew]; exact l1, by rw [World.cell?_drew]; exact l2, by rw [World.cell?_drew]; exact l3, by rw [World.cell?_drew]; exact b0, by rw [World.cell?_drew]; exact b1, by rw [World.cell?_drew]; exact b2, by rw [World.cell?_drew]; exact b3, kep_drew (Kep.refl _ _)⟩) (fun hH => ?_)
    refine sT 0 hH ?_
    refine sT 1 hH ?_
    refine sT 2 hH ?_
    refine sN 3 hH ?_
    refine sN 5 hH ?_
    refine sC 4 (fun K hK => ?_)
    go_simp
    (with_reducible refine (RL.out _).mono ?_); rintro e v6_4 ⟨rfl, g⟩
    refine hK.out _ _ (by (try dsimp only); (go_split_ands; and_intros <;> first | exact g.all (by assumption) | exact kep_next (by assumption) g)) (fun hH2 => ?_)
    clear hK K hH; have hH := hH2; clear hH2
    try simp only [Act.put, List.setIfInBounds_toArray, List.set_cons_zero, List.set_cons_succ]
    refine sC 6 (fun K hK => ?_)
    go_simp
    (with_reducible refine (RB.out _).mono ?_); rintro e v6_6 ⟨rfl, g⟩
    refine hK.out _ _ (by (try dsimp only); (go_split_ands; and_intros <;> first | exact g.all (by assumption) | exact kep_next (by assumption) g)) (fun hH2 => ?_)
    clear hK K hH; have hH := hH2; clear hH2
    refine sN 7 hH ?_
    refine sE ?_
    clear l0 l1 l2 l3 b0 b1 b2 b3
    obtain ⟨l0, l1, l2, l3, b0, b1, b2, b3, gg⟩ := hH
    have HBc2 := Lib.hid (HBc.out.kep gg)
    have HK2 := Lib.hid (kep_next HK.out gg)
    have HZ := Lib.hid hz
    clear hz gg
    obtain ⟨wq, hwq⟩ : ∃ z9, z9 = v6_6 := ⟨_, rfl⟩
    rw [← hwq] at l0 l1 l2 l3 b0 b1 b2 b3 HBc2 HK2 ⊢
    clear hwq
    cases z
    ·go_wp2_with fail
     go_roundw
     case rel => exact ⟨3, by omega, by omega, by go_num, Lib.hid ⟨B, by rw [show bsK (⟨px, py, x0, y0, t0⟩ : Tw) (⟨qx, qy, x1, y1, t1⟩ : Tw) (⟨x2, y2, mx, my, t2⟩ : Tw) (⟨x3, y3, nx, ny, t3⟩ : Tw) 3 = pk (bsK (⟨px, py, x0, y0, t0⟩ : Tw) (⟨qx, qy, x1, y1, t1⟩ : Tw) (⟨x2, y2, mx, my, t2⟩ : Tw) (⟨x3, y3, nx, ny, t3⟩ : Tw) 2) (⟨x2, y2, mx, my, t2⟩ : Tw) from rfl, ← HBe.out]; exact (pk_not HZ.out).symm, HG.out, HBc2.out, HK2.out⟩⟩
     case measure => simp [RowKit.intOf]
    ·have f0 := HBc2.out.f 0
     have f1 := HBc2.out.f 1
     have f2 := HBc2.out.f 2
     have f3 := HBc2.out.f 3
     go_wp2_with fail
     go_roundw
     case rel => exact ⟨3, by omega, by omega, by go_num, Lib.hid ⟨(⟨x2, y2, mx, my, t2⟩ : Tw), by rw [show bsK (⟨px, py, x0, y0, t0⟩ : Tw) (⟨qx, qy, x1, y1, t1⟩ : Tw) (⟨x2, y2, mx, my, t2⟩ : Tw) (⟨x3, y3, nx, ny, t3⟩ : Tw) 3 = pk (bsK (⟨px, py, x0, y0, t0⟩ : Tw) (⟨qx, qy, x1, y1, t1⟩ : Tw) (⟨x2, y2, mx, my, t2⟩ : Tw) (⟨x3, y3, nx, ny, t3⟩ : Tw) 2) (⟨x2, y2, mx, my, t2⟩ : Tw) from rfl, ← HBe.out]; exact (pk_less (v := (⟨x2, y2, mx, my, t2⟩ : Tw)) HZ.out).symm, G2.out, HBc2.out.set (⟨x2, y2, mx, my, t2⟩ : Tw), kep_set (kep_set (kep_set (kep_set HK2.out (Nat.le_refl _) _) (Nat.le_refl _) _) (Nat.le_refl _) _) (Nat.le_refl _) _⟩⟩
     case measure => simp [RowKit.intOf]
   ·have RL := Lib.hid G3.out.rd
    dsimp only at RL
    obtain ⟨z, hz⟩ : ∃ z, decide (t3 < B.t) = z := ⟨_, rfl⟩
    have l0 := HK.out.all H3_0.out
    have l1 := HK.out.all H3_1.out
    have l2 := HK.out.all H3_2.out
    have l3 := HK.out.all H3_3.out
    have b0 := HBc.out.c0
    have b1 := HBc.out.c1
    have b2 := HBc.out.c2
    have b3 := HBc.out.c3
    go_wp2_with fail
    refine wp_region_noPanic ?_
    refine wp_region_held_drew (S := (fun w' => w'.cell? ⟨V.heap.size, 12, none⟩ = some (.int .i32 x3) ∧ w'.cell? ⟨V.heap.size, 13, none⟩ = some (.int .i32 y3) ∧ w'.cell? ⟨V.heap.size, 14, none⟩ = some (.int .i32 nx) ∧ w'.cell? ⟨V.heap.size, 15, none⟩ = some (.int .i32 ny) ∧ w'.cell? ⟨W1.heap.size, 0, none⟩ = some (.int .i32 B.a) ∧ w'.cell? ⟨W1.heap.size, 1, none⟩ = some (.int .i32 B.b) ∧ w'.cell? ⟨W1.heap.size, 2, none⟩ = some (.int .i32 B.c) ∧ w'.cell? ⟨W1.heap.size, 3, none⟩ = some (.int .i32 B.d) ∧ Kep wr.heap.size wr w')) (by kernel_rfl) (⟨by rw [World.cell?_drew]; exact l0, by rw [World.cell?_drew]; exact l1, by rw [World.cell?_drew]; exact l2, by rw [World.cell?_drew]; exact l3, by rw [World.cell?_drew]; exact b0, by rw [World.cell?_drew]; exact b1, by rw [World.cell?_drew]; exact b2, by rw [World.cell?_drew]; exact b3, kep_drew (Kep.refl _ _)⟩) (fun hH => ?_)
    refine sT 0 hH ?_
    refine sT 1 hH ?_
    refine sT 2 hH ?_
    refine sN 3 hH ?_
    refine sN 5 hH ?_
    refine sC 4 (fun K hK => ?_)
    go_simp
    (with_reducible refine (RL.out _).mono ?_); rintro e v6_4 ⟨rfl, g⟩
    refine hK.out _ _ (by (try dsimp only); (go_split_ands; and_intros <;> first | exact g.all (by assumption) | exact kep_next (by assumption) g)) (fun hH2 => ?_)
    clear hK K hH; have hH := hH2; clear hH2
    try simp only [Act.put, List.setIfInBounds_toArray, List.set_cons_zero, List.set_cons_succ]
    refine sC 6 (fun K hK => ?_)
    go_simp
    (with_reducible refine (RB.out _).mono ?_); rintro e v6_6 ⟨rfl, g⟩
    refine hK.out _ _ (by (try dsimp only); (go_split_ands; and_intros <;> first | exact g.all (by assumption) | exact kep_next (by assumption) g)) (fun hH2 => ?_)
    clear hK K hH; have hH := hH2; clear hH2
    refine sN 7 hH ?_
    refine sE ?_
    clear l0 l1 l2 l3 b0 b1 b2 b3
    obtain ⟨l0, l1, l2, l3, b0, b1, b2, b3, gg⟩ := hH
    have HBc2 := Lib.hid (HBc.out.kep gg)
    have HK2 := Lib.hid (kep_next HK.out gg)
    have HZ := Lib.hid hz
    clear hz gg
    obtain ⟨wq, hwq⟩ : ∃ z9, z9 = v6_6 := ⟨_, rfl⟩
    rw [← hwq] at l0 l1 l2 l3 b0 b1 b2 b3 HBc2 HK2 ⊢
    clear hwq
    cases z
    ·go_wp2_with fail
     go_roundw
     case rel => exact ⟨4, by omega, by omega, by go_num, Lib.hid ⟨B, by rw [show bsK (⟨px, py, x0, y0, t0⟩ : Tw) (⟨qx, qy, x1, y1, t1⟩ : Tw) (⟨x2, y2, mx, my, t2⟩ : Tw) (⟨x3, y3, nx, ny, t3⟩ : Tw) 4 = pk (bsK (⟨px, py, x0, y0, t0⟩ : Tw) (⟨qx, qy, x1, y1, t1⟩ : Tw) (⟨x2, y2, mx, my, t2⟩ : Tw) (⟨x3, y3, nx, ny, t3⟩ : Tw) 3) (⟨x3, y3, nx, ny, t3⟩ : Tw) from rfl, ← HBe.out]; exact (pk_not HZ.out).symm, HG.out, HBc2.out, HK2.out⟩⟩
     case measure => simp [RowKit.intOf]
    ·have f0 := HBc2.out.f 0
     have f1 := HBc2.out.f 1
     have f2 := HBc2.out.f 2
     have f3 := HBc2.out.f 3
     go_wp2_with fail
     go_roundw
     case rel => exact ⟨4, by omega, by omega, by go_num, Lib.hid ⟨(⟨x3, y3, nx, ny, t3⟩ : Tw), by rw [show bsK (⟨px, py, x0, y0, t0⟩ : Tw) (⟨qx, qy, x1, y1, t1⟩ : Tw) (⟨x2, y2, mx, my, t2⟩ : Tw) (⟨x3, y3, nx, ny, t3⟩ : Tw) 4 = pk (bsK (⟨px, py, x0, y0, t0⟩ : Tw) (⟨qx, qy, x1, y1, t1⟩ : Tw) (⟨x2, y2, mx, my, t2⟩ : Tw) (⟨x3, y3, nx, ny, t3⟩ : Tw) 3) (⟨x3, y3, nx, ny, t3⟩ : Tw) from rfl, ← HBe.out]; exact (pk_less (v := (⟨x3, y3, nx, ny, t3⟩ : Tw)) HZ.out).symm, G3.out, HBc2.out.set (⟨x3, y3, nx, ny, t3⟩ : Tw), kep_set (kep_set (kep_set (kep_set HK2.out (Nat.le_refl _) _) (Nat.le_refl _) _) (Nat.le_refl _) _) (Nat.le_refl _) _⟩⟩
     case measure => simp [RowKit.intOf]
  ·obtain rfl : k = 4 := by omega
   have HR2 := Lib.hid (HR1.out.kep HK.out)
   have r0 := HR2.out.c0
   have r1 := HR2.out.c1
   have r2 := HR2.out.c2
   have r3 := HR2.out.c3
   have f0 := HR2.out.f 0
   have f1 := HR2.out.f 1
   have f2 := HR2.out.f 2
   have f3 := HR2.out.f 3
   have b0 := HBc.out.c0
   have b1 := HBc.out.c1
   have b2 := HBc.out.c2
   have b3 := HBc.out.c3
   have gg := kep_next (kep_next K0.out K1.out) HK.out
   go_wp2_with fail
   exact bodyPost_ret (v := .agg #[.int .i32 B.a, .int .i32 B.b, .int .i32 B.c, .int .i32 B.d]) (by simp [results, Tryz.results83, go_sem, r0, r1, r2, r3]) rfl ⟨by rw [← HBe.out], by repeat first | exact gg | refine kep_set ?_ (by first | (simp; done) | (simp; omega)) _⟩
theorem rch {px py qx qy mx my nx ny : Int} (h : sgB px py qx qy mx my nx ny = true) : RCh px py qx qy mx my nx ny (chs px py qx qy mx my nx ny) := by
 obtain ⟨h0, h1, h2, h3⟩ := sg_rg h
 obtain ⟨g0, g1, g2, g3⟩ := sg_good h
 exact rch_go (Lib.hid (rneF h0)) (Lib.hid (rneF h1)) (Lib.hid (rneF h2)) (Lib.hid (rneF h3)) (Lib.hid g0) (Lib.hid g1) (Lib.hid g2) (Lib.hid g3)
def okC (x : Bd) : Prop := chk x.r x.ax x.ay x.m x.o x.px x.py x.vx x.vy = 0
def cc (x y : Bd) : Tw := chs (x.px - x.ax) (x.py - x.ay) (x.px + x.ax) (x.py + x.ay) (y.px - y.ax) (y.py - y.ay) (y.px + y.ax) (y.py + y.ay)
def cdx (x y : Bd) : Int := (cc x y).c - (cc x y).a
def cdy (x y : Bd) : Int := (cc x y).d - (cc x y).b
def cln (x y : Bd) : Int := rt (cc x y).t
def csm (x y : Bd) : Int := x.r + y.r
def tchB (x y : Bd) : Bool := decide ((cc x y).t < csm x y * csm x y)
structure Ct where
 lo : Int
 hi : Int
 nx : Int
 ny : Int
 dp : Int
def conC (x y : Bd) : Ct := ⟨x.k, y.k, ux (cdx x y) (cln x y), uy (cdy x y) (cln x y), csm x y - cln x y⟩
def conV (x y : Bd) : Ct := if tchB x y = true then conC x y else ⟨0, 0, 0, 0, 0⟩
def gapC (x y : Bd) : Int := cln x y - csm x y
def lowB (x y : Bd) : Bd := if y.k < x.k then y else x
def higB (x y : Bd) : Bd := if y.k < x.k then x else y
theorem low_ok {x y : Bd} (hx : okC x) (hy : okC y) : okC (lowB x y) ∧ okC (higB x y) := by
 unfold lowB higB
 split
 ·exact ⟨hy, hx⟩
 ·exact ⟨hx, hy⟩
theorem okC_lim {x : Bd} (h : okC x) : (4096 ≤ x.r ∧ x.r ≤ 4194304) ∧ ((-4194304 ≤ x.ax ∧ x.ax ≤ 4194304) ∧ (-4194304 ≤ x.ay ∧ x.ay ≤ 4194304)) ∧ ((-1073741824 ≤ x.px ∧ x.px ≤ 1073741824) ∧ (-1073741824 ≤ x.py ∧ x.py ≤ 1073741824)) := chk_lim h
theorem cc_sg {x y : Bd} (hx : okC x) (hy : okC y) : sgB (x.px - x.ax) (x.py - x.ay) (x.px + x.ax) (x.py + x.ay) (y.px - y.ax) (y.py - y.ay) (y.px + y.ax) (y.py + y.ay) = true := by
 have h1 := okC_lim hx
 have h2 := okC_lim hy
 unfold sgB
 rw [Bool.and_eq_true]
 refine ⟨rgB_iff.2 ⟨?_, ?_, ?_, ?_, ?_, ?_, ?_, ?_⟩, rgB_iff.2 ⟨?_, ?_, ?_, ?_, ?_, ?_, ?_, ?_⟩⟩ <;> first | (unfold Cin; omega) | (unfold Din; omega)
theorem cc_good {x y : Bd} (hx : okC x) (hy : okC y) : Good (cc x y) := sg_chs (cc_sg hx hy)
theorem cc_t {x y : Bd} (hx : okC x) (hy : okC y) : (cc x y).t = lsq (cdx x y) (cdy x y) := (cc_good hx hy).t
theorem cc_ind {x y : Bd} (hx : okC x) (hy : okC y) : InD (cdx x y) ∧ InD (cdy x y) := by
 have g := cc_good hx hy
 have h1 := g.a
 have h2 := g.b
 have h3 := g.c
 have h4 := g.d
 unfold Cin at *
 unfold InD cdx cdy
 omega
theorem cln_is {x y : Bd} (hx : okC x) (hy : okC y) : IsRoot (cln x y) (lsq (cdx x y) (cdy x y)) := by
 have e := cc_t hx hy
 unfold cln
 rw [e]
 exact rt_is (sqP_nn _ _)
theorem cln_bd {x y : Bd} (hx : okC x) (hy : okC y) : 0 ≤ cln x y ∧ cln x y ≤ 4294967295 := by
 have h := cln_is hx hy
 have i := cc_ind hx hy
 have l := (lsq_in i.1 i.2).2
 exact ⟨h.1, h.le_max (by omega)⟩
theorem csm_bd {x y : Bd} (hx : okC x) (hy : okC y) : 8192 ≤ csm x y ∧ csm x y ≤ 8388608 := by
 have h1 := okC_lim hx
 have h2 := okC_lim hy
 unfold csm
 omega
theorem tch_iff {x y : Bd} (hx : okC x) (hy : okC y) : tchB x y = true ↔ cln x y < csm x y := by
 have h := cln_is hx hy
 have e := cc_t hx hy
 have hs := csm_bd hx hy
 unfold tchB
 rw [decide_eq_true_iff, e]
 have k := h.iff (t := csm x y) (by omega)
 constructor
 ·intro c
  apply Int.not_le.1
  intro q
  have := k.2 q
  omega
 ·intro c
  apply Int.not_le.1
  intro q
  have := k.1 q
  omega
theorem nX_box (p q r s c d : Int) : (min p r ≤ nX p q r s c d ∧ nX p q r s c d ≤ max p r) ∧ (min q s ≤ nY p q r s c d ∧ nY p q r s c d ≤ max q s) := by
 have h := paP_in (c - p) (d - q) (r - p) (s - q)
 exact ⟨st_box h.1 h.2 rfl, st_box h.1 h.2 rfl⟩
theorem chs_box (a b c d e f g h : Int) : ((min a c ≤ (chs a b c d e f g h).a ∧ (chs a b c d e f g h).a ≤ max a c) ∧ (min b d ≤ (chs a b c d e f g h).b ∧ (chs a b c d e f g h).b ≤ max b d)) ∧ ((min e g ≤ (chs a b c d e f g h).c ∧ (chs a b c d e f g h).c ≤ max e g) ∧ (min f h ≤ (chs a b c d e f g h).d ∧ (chs a b c d e f g h).d ≤ max f h)) := by
 rcases chs_or a b c d e f g h with q | q | q | q <;> rw [q]
 ·have k := nX_box e f g h a b
  exact ⟨⟨⟨Int.min_le_left _ _, Int.le_max_left _ _⟩, ⟨Int.min_le_left _ _, Int.le_max_left _ _⟩⟩, k⟩
 ·have k := nX_box e f g h c d
  exact ⟨⟨⟨Int.min_le_right _ _, Int.le_max_right _ _⟩, ⟨Int.min_le_right _ _, Int.le_max_right _ _⟩⟩, k⟩
 ·have k := nX_box a b c d e f
  exact ⟨k, ⟨⟨Int.min_le_left _ _, Int.le_max_left _ _⟩, ⟨Int.min_le_left _ _, Int.le_max_left _ _⟩⟩⟩
 ·have k := nX_box a b c d g h
  exact ⟨k, ⟨⟨Int.min_le_right _ _, Int.le_max_right _ _⟩, ⟨Int.min_le_right _ _, Int.le_max_right _ _⟩⟩⟩
def exC (x : Bd) : Int := max x.ax (-x.ax) + x.r
def eyC (x : Bd) : Int := max x.ay (-x.ay) + x.r
theorem tch_box {x y : Bd} (hx : okC x) (hy : okC y) (h : tchB x y = true) : (x.px - exC x ≤ y.px + exC y ∧ y.px - exC y ≤ x.px + exC x) ∧ (x.py - eyC x ≤ y.py + eyC y ∧ y.py - eyC y ≤ x.py + eyC x) := by
 have c := (tch_iff hx hy).1 h
 have g := root_ge (cln_is hx hy)
 have b := chs_box (x.px - x.ax) (x.py - x.ay) (x.px + x.ax) (x.py + x.ay) (y.px - y.ax) (y.py - y.ay) (y.px + y.ax) (y.py + y.ay)
 obtain ⟨z, hz⟩ : ∃ z, z = cc x y := ⟨_, rfl⟩
 have hz2 : z = chs (x.px - x.ax) (x.py - x.ay) (x.px + x.ax) (x.py + x.ay) (y.px - y.ax) (y.py - y.ay) (y.px + y.ax) (y.py + y.ay) := hz
 rw [← hz2] at b
 unfold cdx cdy at g
 rw [← hz] at g
 unfold csm at c
 unfold exC eyC
 omega
def isum : List Int → Int
 | [] => 0
 | a :: l => a + isum l
theorem isum_app : ∀ (a b : List Int), isum (a ++ b) = isum a + isum b
 | [], b => by simp [isum]
 | x :: a, b => by
   show x + isum (a ++ b) = x + isum a + isum b
   rw [isum_app a b]
   omega
theorem isum_bd {B : Int} (_hB : 0 ≤ B) : ∀ {l : List Int}, (∀ a ∈ l, -B ≤ a ∧ a ≤ B) → -((l.length : Int) * B) ≤ isum l ∧ isum l ≤ (l.length : Int) * B
 | [], _ => by simp [isum]
 | x :: l, h => by
   have h1 := h x (by simp)
   have h2 := isum_bd _hB (l := l) (fun a ha => h a (by simp [ha]))
   have e : ((x :: l).length : Int) * B = (l.length : Int) * B + B := by
    rw [List.length_cons, Int.natCast_succ, Int.add_mul, Int.one_mul]
   rw [e]
   show -((l.length : Int) * B + B) ≤ x + isum l ∧ x + isum l ≤ (l.length : Int) * B + B
   omega
theorem isum_zero : ∀ {l : List Int}, (∀ a ∈ l, a = 0) → isum l = 0
 | [], _ => rfl
 | x :: l, h => by
   show x + isum l = 0
   rw [h x (by simp), isum_zero fun a ha => h a (by simp [ha])]
   rfl
def bdK (L : List Bd) (k : Int) : Bd := match look L k with
 | some x => x
 | none => ⟨0, 0, 0, 0, 0, 0, 0, 0, 0, 0⟩
theorem bdK_eq {L : List Bd} {k : Int} {x : Bd} (h : look L k = some x) : bdK L k = x := by unfold bdK; rw [h]
def stJ (L : List Bd) (c : Ct) : Int := stI c.nx c.ny (bdK L c.lo) (bdK L c.hi)
def conJ (f : Ct → Int) (L : List Bd) (x : Bd) (c : Ct) : Int := if c.lo = x.k then -(chI (stJ L c) x.m (f c)) else if c.hi = x.k then chI (stJ L c) x.m (f c) else 0
def sumJ (f : Ct → Int) (L : List Bd) (C : List Ct) (x : Bd) : Int := isum (C.map (conJ f L x))
theorem sumJ_app (f : Ct → Int) (L : List Bd) (C D : List Ct) (x : Bd) : sumJ f L (C ++ D) x = sumJ f L C x + sumJ f L D x := by
 unfold sumJ
 rw [List.map_append, isum_app]
theorem sumJ_at {f : Ct → Int} {L : List Bd} {C : List Ct} {x : Bd} {k : Nat} {c : Ct} (h : C[k]? = some c) : sumJ f L (C.take (k + 1)) x = sumJ f L (C.take k) x + conJ f L x c := by
 rw [List.take_add_one, h]
 show sumJ f L (C.take k ++ [c]) x = _
 rw [sumJ_app]
 show _ + (conJ f L x c + 0) = _
 omega
def limJ (n : Int) : Int := max (-16777216) (min n 16777216)
def rndX (L : List Bd) (C : List Ct) (x : Bd) : Int := limJ (x.vx + sumJ (·.nx) L C x)
def rndY (L : List Bd) (C : List Ct) (x : Bd) : Int := limJ (x.vy + sumJ (·.ny) L C x)
def velB (x : Bd) (a b : Int) : Bd := ⟨x.k, x.r, x.ax, x.ay, x.m, x.o, x.px, x.py, a, b⟩
def rndB (L : List Bd) (C : List Ct) (x : Bd) : Bd := velB x (rndX L C x) (rndY L C x)
def clB (L : List Bd) (C : List Ct) (x : Bd) : Bool := decide (rndX L C x ≠ x.vx + sumJ (·.nx) L C x) || decide (rndY L C x ≠ x.vy + sumJ (·.ny) L C x)
def rndL (L : List Bd) (C : List Ct) : List Bd := L.map (rndB L C)
def clL (L : List Bd) (C : List Ct) : Bool := L.any (clB L C)
def slvN (C : List Ct) (L : List Bd) : Nat → List Bd × Bool
 | 0 => (L, false)
 | n + 1 => (rndL (slvN C L n).1 C, (slvN C L n).2 || clL (slvN C L n).1 C)
theorem limJ_bd (n : Int) : -16777216 ≤ limJ n ∧ limJ n ≤ 16777216 := by unfold limJ; omega
theorem limJ_id {n : Int} (h : -16777216 ≤ n ∧ n ≤ 16777216) : limJ n = n := by unfold limJ; omega
structure RgC (L : List Bd) (c : Ct) : Prop where
 lt : c.lo < c.hi
 lo : (look L c.lo).isSome = true
 hi : (look L c.hi).isSome = true
 nx : Nr c.nx
 ny : Nr c.ny
theorem stJ_bd {L : List Bd} (hv : ∀ x ∈ L, Vb x) {c : Ct} (h : RgC L c) : 0 ≤ stJ L c ∧ stJ L c ≤ 8796093022208 := by
 obtain ⟨x, hx⟩ := Option.isSome_iff_exists.1 h.lo
 obtain ⟨y, hy⟩ := Option.isSome_iff_exists.1 h.hi
 unfold stJ
 rw [bdK_eq hx, bdK_eq hy]
 exact st_bd (hv _ (look_some hx).1) (hv _ (look_some hy).1) h.nx h.ny
theorem chI_bd {j m n : Int} (hj : 0 ≤ j ∧ j ≤ 8796093022208) (hm : 0 ≤ m ∧ m ≤ 1048576) (hn : Nr n) : -140737488355328 ≤ chI j m n ∧ chI j m n ≤ 140737488355328 := by
 have k := k_bd hj hm
 exact ch_bd ⟨k.2.2.1, k.2.2.2⟩ hn
theorem conJ_bd {f : Ct → Int} {L : List Bd} (hv : ∀ x ∈ L, Vb x) {x : Bd} (hx : x ∈ L) {c : Ct} (h : RgC L c) (hf : Nr (f c)) : -140737488355328 ≤ conJ f L x c ∧ conJ f L x c ≤ 140737488355328 := by
 have b := chI_bd (stJ_bd hv h) ⟨(hv x hx).m0, (hv x hx).m1⟩ hf
 unfold conJ
 repeat' split
 all_goals omega
theorem sumJ_bd {f : Ct → Int} {L : List Bd} (hv : ∀ x ∈ L, Vb x) {x : Bd} (hx : x ∈ L) {C : List Ct} (hC : ∀ c ∈ C, RgC L c) (hf : ∀ c ∈ C, Nr (f c)) (hl : C.length ≤ 1000) : -140737488355328000 ≤ sumJ f L C x ∧ sumJ f L C x ≤ 140737488355328000 := by
 have b := isum_bd (B := 140737488355328) (by decide) (l := C.map (conJ f L x)) (fun a ha => by
  obtain ⟨c, hc, rfl⟩ := List.mem_map.1 ha
  exact conJ_bd hv hx (hC c hc) (hf c hc))
 rw [List.length_map] at b
 unfold sumJ
 omega
theorem chI_static (j n : Int) : chI j 0 n = 0 := by
 unfold chI
 rw [Int.mul_zero, Int.zero_ediv, Int.zero_mul, Int.zero_ediv]
theorem sumJ_static {f : Ct → Int} {L : List Bd} {C : List Ct} {x : Bd} (h : x.m = 0) : sumJ f L C x = 0 := by
 unfold sumJ
 refine isum_zero fun a ha => ?_
 obtain ⟨c, hc, rfl⟩ := List.mem_map.1 ha
 unfold conJ
 rw [h, chI_static]
 repeat' split
 all_goals rfl
theorem sumJ_unused {f : Ct → Int} {L : List Bd} {C : List Ct} {x : Bd} (h : ∀ c ∈ C, c.lo ≠ x.k ∧ c.hi ≠ x.k) : sumJ f L C x = 0 := by
 unfold sumJ
 refine isum_zero fun a ha => ?_
 obtain ⟨c, hc, rfl⟩ := List.mem_map.1 ha
 unfold conJ
 rw [if_neg (h c hc).1, if_neg (h c hc).2]
theorem rnd_id {L : List Bd} {C : List Ct} {x : Bd} (hv : Vb x) (h1 : sumJ (·.nx) L C x = 0) (h2 : sumJ (·.ny) L C x = 0) : rndB L C x = x ∧ clB L C x = false := by
 have a := hv.vx0; have b := hv.vx1; have c := hv.vy0; have d := hv.vy1
 have e1 : rndX L C x = x.vx := by unfold rndX; rw [h1, Int.add_zero, limJ_id ⟨a, b⟩]
 have e2 : rndY L C x = x.vy := by unfold rndY; rw [h2, Int.add_zero, limJ_id ⟨c, d⟩]
 constructor
 ·unfold rndB velB
  rw [e1, e2]
 ·unfold clB
  rw [e1, e2, h1, h2, Int.add_zero, Int.add_zero]
  simp
structure SmJ (x y : Bd) : Prop where
 k : y.k = x.k
 r : y.r = x.r
 ax : y.ax = x.ax
 ay : y.ay = x.ay
 m : y.m = x.m
 o : y.o = x.o
 px : y.px = x.px
 py : y.py = x.py
theorem slv_len (C : List Ct) (L : List Bd) : ∀ n, (slvN C L n).1.length = L.length
 | 0 => rfl
 | n + 1 => by
   show (rndL (slvN C L n).1 C).length = _
   unfold rndL
   rw [List.length_map, slv_len C L n]
theorem rndB_sm (L : List Bd) (C : List Ct) (x : Bd) : SmJ x (rndB L C x) := ⟨rfl, rfl, rfl, rfl, rfl, rfl, rfl, rfl⟩
theorem SmJ.vb {x y : Bd} (h : SmJ x y) (hx : Vb x) (h1 : -16777216 ≤ y.vx ∧ y.vx ≤ 16777216) (h2 : -16777216 ≤ y.vy ∧ y.vy ≤ 16777216) : Vb y := by
 have a := hx.m0; have b := hx.m1; have c := hx.o0; have d := hx.o1
 exact ⟨by rw [h.m]; exact a, by rw [h.m]; exact b, by rw [h.o]; exact c, by rw [h.o]; exact d, h1.1, h1.2, h2.1, h2.2⟩
theorem rndB_vb {L : List Bd} {C : List Ct} {x : Bd} (hx : Vb x) : Vb (rndB L C x) := (rndB_sm L C x).vb hx (limJ_bd _) (limJ_bd _)
theorem slv_at {C : List Ct} {L : List Bd} {i : Nat} {x : Bd} (hv : Vb x) (hx : L[i]? = some x) : ∀ n, ∃ y, (slvN C L n).1[i]? = some y ∧ SmJ x y ∧ Vb y ∧ (x.m = 0 ∨ (∀ c ∈ C, c.lo ≠ x.k ∧ c.hi ≠ x.k) → y.vx = x.vx ∧ y.vy = x.vy)
 | 0 => ⟨x, hx, ⟨rfl, rfl, rfl, rfl, rfl, rfl, rfl, rfl⟩, hv, fun _ => ⟨rfl, rfl⟩⟩
 | n + 1 => by
   obtain ⟨y, hy, sm, vb, hs⟩ := slv_at hv hx n
   refine ⟨rndB (slvN C L n).1 C y, ?_, ?_, rndB_vb vb, fun q => ?_⟩
   ·show (rndL (slvN C L n).1 C)[i]? = _
    unfold rndL
    rw [List.getElem?_map, hy]
    rfl
   ·have t := rndB_sm (slvN C L n).1 C y
    exact ⟨t.k.trans sm.k, t.r.trans sm.r, t.ax.trans sm.ax, t.ay.trans sm.ay, t.m.trans sm.m, t.o.trans sm.o, t.px.trans sm.px, t.py.trans sm.py⟩
   ·have z : ∀ f : Ct → Int, sumJ f (slvN C L n).1 C y = 0 := fun f => by
     rcases q with q | q
     ·exact sumJ_static (by rw [sm.m]; exact q)
     ·exact sumJ_unused fun c hc => by rw [sm.k]; exact q c hc
    have e := (rnd_id vb (z _) (z _)).1
    rw [e]
    exact hs q
theorem slv_vb {C : List Ct} {L : List Bd} (hv : ∀ x ∈ L, Vb x) (n : Nat) : ∀ y ∈ (slvN C L n).1, Vb y := fun y hy => by
 obtain ⟨i, hi⟩ := List.getElem?_of_mem hy
 have hl : i < L.length := by rw [← slv_len C L n]; exact (List.getElem?_eq_some_iff.1 hi).1
 obtain ⟨z, hz, _, vb, _⟩ := slv_at (C := C) (hv _ (List.getElem_mem hl)) (List.getElem?_eq_getElem hl) n
 rw [hi] at hz
 injection hz with hz
 rw [hz]
 exact vb
theorem look_map {g : Bd → Bd} (hg : ∀ x, (g x).k = x.k) : ∀ (L : List Bd) (key : Int), look (L.map g) key = (look L key).map g
 | [], _ => rfl
 | x :: l, key => by
   show (if (g x).k = key then some (g x) else look (l.map g) key) = (if x.k = key then some x else look l key).map g
   rw [hg, look_map hg l key]
   split <;> rfl
theorem rgc_rnd {L : List Bd} {D : List Ct} {c : Ct} (h : RgC L c) : RgC (rndL L D) c := by
 obtain ⟨h1, h2, h3, h4, h5⟩ := h
 refine ⟨h1, ?_, ?_, h4, h5⟩
 ·unfold rndL; rw [look_map (g := rndB L D) (fun _ => rfl), Option.isSome_map]; exact h2
 ·unfold rndL; rw [look_map (g := rndB L D) (fun _ => rfl), Option.isSome_map]; exact h3
theorem rgc_slv {L : List Bd} {C : List Ct} {c : Ct} (h : RgC L c) : ∀ n, RgC (slvN C L n).1 c
 | 0 => h
 | n + 1 => rgc_rnd (rgc_slv h n)
theorem any_take {α : Type} {t : α → Bool} {L : List α} {k : Nat} {y : α} (h : L[k]? = some y) : (L.take (k + 1)).any t = ((L.take k).any t || t y) := by
 rw [List.take_add_one, h]
 simp
end Go.Proofs.YtaknmlohnifcdaaGreatDoor
