import Derived.Test.YtangalkbjochjaaGreatDoorJ04RootArith
import Derived.Test.YtangalkbjochjaaGreatDoorJ17RefMul
import Derived.Test.YtangalkbjochjaaGreatDoorJ02Seq
import Derived.Test.YtangalkbjochjaaGreatDoorJ00Bits
import Derived.Deep.DeepCutAuto
import Derived.Deep.QuietTactic
import Derived.BigQuiet

/-! J18PointRef: PointRef, PointRef2, SegRef. -/

section
/-
  Package point: its slow reference.
-/
namespace Go.Proofs.YtangalkbjochjaaGreatDoor
open Go.RowKit Go.Lib

abbrev Cin (n : Int) : Prop := -1082130432 ≤ n ∧ n ≤ 1082130432
abbrev Din (n : Int) : Prop := -16777216 ≤ n ∧ n ≤ 16777216
/-- A segment and a point in range. -/
structure Rg (px py qx qy cx cy : Int) : Prop where
  hpx : Cin px
  hpy : Cin py
  hqx : Cin qx
  hqy : Cin qy
  hcx : Cin cx
  hcy : Cin cy
  hdx : Din (qx - px)
  hdy : Din (qy - py)
abbrev RLi (n a b q : Int) : Prop := ∀ w, Calls Tryz.prog 103 #[.int .i64 n, .int .i64 a, .int .i64 b] w fun e w' => e = .returned (.int .i64 q) ∧ w = w'
abbrev RSq (px py qx qy s : Int) : Prop := ∀ w, Calls Tryz.prog 79 #[.agg #[.int .i32 px, .int .i32 py], .agg #[.int .i32 qx, .int .i32 qy]] w fun e w' => e = .returned (.int .i64 s) ∧ Kep w.heap.size w w'
abbrev RPa (px py qx qy cx cy n : Int) : Prop := ∀ w, Calls Tryz.prog 80 #[.agg #[.int .i32 px, .int .i32 py], .agg #[.int .i32 qx, .int .i32 qy], .agg #[.int .i32 cx, .int .i32 cy]] w fun e w' => e = .returned (.int .i64 n) ∧ Kep w.heap.size w w'
abbrev RNe (px py qx qy cx cy x y : Int) : Prop := ∀ w, Calls Tryz.prog 59 #[.agg #[.int .i32 px, .int .i32 py], .agg #[.int .i32 qx, .int .i32 qy], .agg #[.int .i32 cx, .int .i32 cy]] w fun e w' => e = .returned (.agg #[.int .i32 x, .int .i32 y]) ∧ Kep w.heap.size w w'
theorem rli (n d q : Int) (h : limP n d = q) : RLi n 0 d q := fun w => by
  unfold limP at h
  by_cases c1 : n < 0
  · rw [if_pos c1] at h
    subst h
    have e1 : decide (n < 0) = true := decide_eq_true c1
    clear c1
    go_enter Tryz.func103, Tryz.ntmps103
    go_wp2_with fail
    go_ret
    exact ⟨rfl, rfl⟩
  · rw [if_neg c1] at h
    have e1 : decide (n < 0) = false := decide_eq_false c1
    by_cases c2 : d < n
    · rw [if_pos c2] at h
      subst h
      have e2 : decide (d < n) = true := decide_eq_true c2
      clear c1 c2
      go_enter Tryz.func103, Tryz.ntmps103
      go_wp2_with fail
      go_ret
      exact ⟨rfl, rfl⟩
    · rw [if_neg c2] at h
      subst h
      have e2 : decide (d < n) = false := decide_eq_false c2
      clear c1 c2
      go_enter Tryz.func103, Tryz.ntmps103
      go_wp2_with fail
      go_ret
      exact ⟨rfl, rfl⟩
theorem sq_dn {d : Int} (h : Din d) : 0 ≤ d * d ∧ d * d ≤ 281474976710656 := by
  obtain ⟨h1, h2⟩ := h
  rcases Int.le_total 0 d with c | c
  · have := Int.mul_le_mul h2 h2 c (by omega)
    exact ⟨Int.mul_nonneg c c, by omega⟩
  · have h3 : -d ≤ 16777216 := by omega
    have := Int.mul_le_mul h3 h3 (by omega) (by omega)
    rw [Int.neg_mul_neg] at this
    exact ⟨Int.mul_nonneg_of_nonpos_of_nonpos c c, by omega⟩
theorem sqP_dn {dx dy : Int} (hx : Din dx) (hy : Din dy) : 0 ≤ sqP dx dy ∧ sqP dx dy ≤ 562949953421312 := by
  have h1 := sq_dn hx
  have h2 := sq_dn hy
  unfold sqP
  omega
theorem mul_dn {u d : Int} (hu : -2181038080 ≤ u ∧ u ≤ 2181038080) (hd : Din d) : -36591746972385280 ≤ u * d ∧ u * d ≤ 36591746972385280 := by
  obtain ⟨h1, h2⟩ := hd
  have key : ∀ a b : Int, 0 ≤ a → a ≤ 2181038080 → -16777216 ≤ b → b ≤ 16777216 → -36591746972385280 ≤ a * b ∧ a * b ≤ 36591746972385280 := fun a b ha ha2 hb1 hb2 => by
    rcases Int.le_total 0 b with c | c
    · have := Int.mul_le_mul ha2 hb2 c (by omega)
      have := Int.mul_nonneg ha c
      omega
    · have := Int.mul_le_mul ha2 (show -b ≤ 16777216 by omega) (by omega) (by omega)
      have h := Int.mul_nonneg ha (show 0 ≤ -b by omega)
      rw [Int.mul_neg] at *
      omega
  rcases Int.le_total 0 u with c | c
  · exact key u d c hu.2 h1 h2
  · have := key (-u) d (by omega) (by omega) h1 h2
    rw [Int.neg_mul] at this
    omega
set_option maxRecDepth 100000 in
set_option maxHeartbeats 1000000 in
theorem rsq {px py qx qy dx dy s : Int} (h1 : Cin px) (h2 : Cin py) (h3 : Cin qx) (h4 : Cin qy) (h5 : Din dx) (h6 : Din dy) (hx : qx - px = dx) (hy : qy - py = dy) (hs : sqP dx dy = s) : RSq px py qx qy s := fun w => by
  have k1 := sq_dn h5
  have k2 := sq_dn h6
  unfold sqP at hs
  obtain ⟨xx, hxx⟩ : ∃ x, x = dx * dx := ⟨_, rfl⟩
  obtain ⟨yy, hyy⟩ : ∃ x, x = dy * dy := ⟨_, rfl⟩
  rw [← hxx] at k1 hs
  rw [← hyy] at k2 hs
  have e1 : IntKind.i64.wrap px = px := by rw [IntKind.wrap_i64]; omega
  have e2 : IntKind.i64.wrap py = py := by rw [IntKind.wrap_i64]; omega
  have e3 : IntKind.i64.wrap qx = qx := by rw [IntKind.wrap_i64]; omega
  have e4 : IntKind.i64.wrap qy = qy := by rw [IntKind.wrap_i64]; omega
  have e5 : IntKind.i64.wrap (qx - px) = dx := by rw [IntKind.wrap_i64]; omega
  have e6 : IntKind.i64.wrap (qy - py) = dy := by rw [IntKind.wrap_i64]; omega
  have e7 : IntKind.i64.wrap (dx * dx) = xx := by rw [← hxx, IntKind.wrap_i64]; omega
  have e8 : IntKind.i64.wrap (dy * dy) = yy := by rw [← hyy, IntKind.wrap_i64]; omega
  have e9 : IntKind.i64.wrap (xx + yy) = s := by rw [IntKind.wrap_i64]; omega
  clear h1 h2 h3 h4 h5 h6 hx hy hs hxx hyy k1 k2
  go_enter Tryz.func79, Tryz.ntmps79
  go_wp2_with fail
  go_ret
  exact ⟨rfl, (kep_more (kep_more (Kep.refl _ _) _) _)⟩
set_option maxRecDepth 100000 in
set_option maxHeartbeats 1000000 in
theorem rpa {px py qx qy cx cy dx dy ux uy n : Int} (H : Rg px py qx qy cx cy) (hx : qx - px = dx) (hy : qy - py = dy) (hu : cx - px = ux) (hv : cy - py = uy) (hn : paP ux uy dx dy = n) : RPa px py qx qy cx cy n := fun w => by
  obtain ⟨h1, h2, h3, h4, h5, h6, h7, h8⟩ := H
  rw [hx] at h7
  rw [hy] at h8
  have C1 := Lib.hid (rsq h1 h2 h3 h4 h7 h8 hx hy rfl)
  have k1 := mul_dn (u := ux) (by unfold Cin at *; omega) h7
  have k2 := mul_dn (u := uy) (by unfold Cin at *; omega) h8
  unfold paP at hn
  have C2 := Lib.hid (rli _ _ n hn)
  obtain ⟨xx, hxx⟩ : ∃ x, x = ux * dx := ⟨_, rfl⟩
  obtain ⟨yy, hyy⟩ : ∃ x, x = uy * dy := ⟨_, rfl⟩
  rw [← hxx] at k1 C2
  rw [← hyy] at k2 C2
  obtain ⟨t, ht⟩ : ∃ t, t = xx + yy := ⟨_, rfl⟩
  rw [← ht] at C2
  have e0 : IntKind.i64.wrap px = px := by rw [IntKind.wrap_i64]; omega
  have e1 : IntKind.i64.wrap py = py := by rw [IntKind.wrap_i64]; omega
  have e2 : IntKind.i64.wrap qx = qx := by rw [IntKind.wrap_i64]; omega
  have e3 : IntKind.i64.wrap qy = qy := by rw [IntKind.wrap_i64]; omega
  have e4 : IntKind.i64.wrap cx = cx := by rw [IntKind.wrap_i64]; omega
  have e5 : IntKind.i64.wrap cy = cy := by rw [IntKind.wrap_i64]; omega
  have f0 : IntKind.i64.wrap (qx - px) = dx := by rw [IntKind.wrap_i64]; omega
  have f1 : IntKind.i64.wrap (qy - py) = dy := by rw [IntKind.wrap_i64]; omega
  have f2 : IntKind.i64.wrap (cx - px) = ux := by rw [IntKind.wrap_i64]; omega
  have f3 : IntKind.i64.wrap (cy - py) = uy := by rw [IntKind.wrap_i64]; omega
  have f4 : IntKind.i64.wrap (ux * dx) = xx := by rw [← hxx, IntKind.wrap_i64]; omega
  have f5 : IntKind.i64.wrap (uy * dy) = yy := by rw [← hyy, IntKind.wrap_i64]; omega
  have f6 : IntKind.i64.wrap (xx + yy) = t := by rw [← ht, IntKind.wrap_i64]; omega
  clear h1 h2 h3 h4 h5 h6 h7 h8 hx hy hu hv hn hxx hyy ht k1 k2
  generalize sqP dx dy = s at *
  go_enter Tryz.func80, Tryz.ntmps80
  go_wp2_with (first
    | ((with_reducible refine (C1.out _).mono ?_); rintro e w1 ⟨rfl, g1⟩; have gg := kep_next (kep_more (kep_more (kep_more (Kep.refl _ _) _) _) _) g1)
    | ((with_reducible refine (C2.out _).mono ?_); rintro e w2 ⟨rfl, rfl⟩))
  go_ret
  exact ⟨rfl, gg⟩
theorem mdv_st {dx n d : Int} (hd : 0 < d) (h0 : 0 ≤ n) (h1 : n ≤ d) (hx : Din dx) : mdv dx n d = stP dx n d ∧ mde dx n d = 0 := by
  have h := stP_in (dx := dx) h0 h1
  have e : fl (dx * n) d = stP dx n d := by unfold fl stP; rw [if_neg (by omega), if_neg (by omega)]
  have hI : I64 (stP dx n d) := by obtain ⟨h3, h4⟩ := hx; unfold I64; omega
  have hc : ¬ d = 0 := by omega
  constructor
  · show (if d = 0 then 0 else rv (fl (dx * n) d)) = _
    rw [if_neg hc, e]
    exact if_pos hI
  · show (if d = 0 then 2 else re (fl (dx * n) d)) = _
    rw [if_neg hc, e]
    exact if_pos hI
theorem st_box {px qx dx n d : Int} (h0 : 0 ≤ n) (h1 : n ≤ d) (hx : qx - px = dx) : min px qx ≤ px + stP dx n d ∧ px + stP dx n d ≤ max px qx := by
  have := stP_in (dx := dx) h0 h1
  omega
set_option maxRecDepth 100000 in
set_option maxHeartbeats 2000000 in
theorem rne_zero {px py qx qy cx cy dx dy : Int} (H : Rg px py qx qy cx cy) (hx : qx - px = dx) (hy : qy - py = dy) (hz : sqP dx dy = 0) : RNe px py qx qy cx cy px py := fun w => by
  obtain ⟨h1, h2, h3, h4, h5, h6, h7, h8⟩ := H
  rw [hx] at h7
  rw [hy] at h8
  have C1 := Lib.hid (rsq h1 h2 h3 h4 h7 h8 hx hy hz)
  clear h1 h2 h3 h4 h5 h6 h7 h8 hx hy hz
  go_enter Tryz.func59, Tryz.ntmps59
  go_wp2_with (first
    | ((with_reducible refine (C1.out _).mono ?_); rintro e w1 ⟨rfl, g1⟩
       have p0 := Kep.all g1 (a := ⟨w.heap.size, 0, none⟩) (v := .int .i32 px) (by (repeat (first | rw [World.cell?_drew] | rw [World.cell?_alloc_past _ _ _ (by first | (simp; done) | (simp; omega))])); rw [World.cell?_alloc_at _ _ _ _ (by simp)]; rfl)
       have p1 := Kep.all g1 (a := ⟨w.heap.size, 1, none⟩) (v := .int .i32 py) (by (repeat (first | rw [World.cell?_drew] | rw [World.cell?_alloc_past _ _ _ (by first | (simp; done) | (simp; omega))])); rw [World.cell?_alloc_at _ _ _ _ (by simp)]; rfl)
       have q0 := Kep.all g1 (a := ⟨w.heap.size + 1, 0, none⟩) (v := .int .i32 qx) (by (repeat (first | rw [World.cell?_drew] | rw [World.cell?_alloc_past _ _ _ (by first | (simp; done) | (simp; omega))])); rw [World.cell?_alloc_at _ _ _ _ (by simp)]; rfl)
       have q1 := Kep.all g1 (a := ⟨w.heap.size + 1, 1, none⟩) (v := .int .i32 qy) (by (repeat (first | rw [World.cell?_drew] | rw [World.cell?_alloc_past _ _ _ (by first | (simp; done) | (simp; omega))])); rw [World.cell?_alloc_at _ _ _ _ (by simp)]; rfl)
       have c0 := Kep.all g1 (a := ⟨w.heap.size + 1 + 1, 0, none⟩) (v := .int .i32 cx) (by (repeat (first | rw [World.cell?_drew] | rw [World.cell?_alloc_past _ _ _ (by first | (simp; done) | (simp; omega))])); rw [World.cell?_alloc_at _ _ _ _ (by simp)]; rfl)
       have c1 := Kep.all g1 (a := ⟨w.heap.size + 1 + 1, 1, none⟩) (v := .int .i32 cy) (by (repeat (first | rw [World.cell?_drew] | rw [World.cell?_alloc_past _ _ _ (by first | (simp; done) | (simp; omega))])); rw [World.cell?_alloc_at _ _ _ _ (by simp)]; rfl)
       have r0 := Kep.all g1 (a := ⟨w.heap.size + 1 + 1 + 1, 0, none⟩) (v := .int .i32 0) (by (repeat (first | rw [World.cell?_drew] | rw [World.cell?_alloc_past _ _ _ (by first | (simp; done) | (simp; omega))])); rw [World.cell?_alloc_at _ _ _ _ (by simp)]; rfl)
       have r1 := Kep.all g1 (a := ⟨w.heap.size + 1 + 1 + 1, 1, none⟩) (v := .int .i32 0) (by (repeat (first | rw [World.cell?_drew] | rw [World.cell?_alloc_past _ _ _ (by first | (simp; done) | (simp; omega))])); rw [World.cell?_alloc_at _ _ _ _ (by simp)]; rfl)
       have gg := kep_next (kep_more (kep_more (kep_more (kep_more (Kep.refl _ _) _) _) _) _) g1
       have sr0 := kep_some g1 (a := ⟨w.heap.size + 1 + 1 + 1, 0, none⟩) (by (repeat (first | rw [World.cell?_drew] | rw [World.cell?_alloc_past _ _ _ (by first | (simp; done) | (simp; omega))])); rw [World.cell?_alloc_at _ _ _ _ (by simp)]; rfl)
       have sr1 := kep_some g1 (a := ⟨w.heap.size + 1 + 1 + 1, 1, none⟩) (by (repeat (first | rw [World.cell?_drew] | rw [World.cell?_alloc_past _ _ _ (by first | (simp; done) | (simp; omega))])); rw [World.cell?_alloc_at _ _ _ _ (by simp)]; rfl)
       have fr0 := kep_froz g1 (a := ⟨w.heap.size + 1 + 1 + 1, 0, none⟩) (by (repeat (first | rw [World.cell?_drew] | rw [World.cell?_alloc_past _ _ _ (by first | (simp; done) | (simp; omega))])); rw [World.cell?_alloc_at _ _ _ _ (by simp)]; rfl) (by (repeat (first | rw [World.frozen?_drew] | rw [World.frozen?_alloc_past _ _ _ (by first | (simp; done) | (simp; omega))])); rw [World.frozen?_alloc_at _ _ _ _ (by simp)])
       have fr1 := kep_froz g1 (a := ⟨w.heap.size + 1 + 1 + 1, 1, none⟩) (by (repeat (first | rw [World.cell?_drew] | rw [World.cell?_alloc_past _ _ _ (by first | (simp; done) | (simp; omega))])); rw [World.cell?_alloc_at _ _ _ _ (by simp)]; rfl) (by (repeat (first | rw [World.frozen?_drew] | rw [World.frozen?_alloc_past _ _ _ (by first | (simp; done) | (simp; omega))])); rw [World.frozen?_alloc_at _ _ _ _ (by simp)])
       have zp_w1 : w.heap.size < w1.heap.size := World.block_lt_of_cell? _ _ p0
       have zq_w1 : w.heap.size + 1 < w1.heap.size := World.block_lt_of_cell? _ _ q0
       have zc_w1 : w.heap.size + 1 + 1 < w1.heap.size := World.block_lt_of_cell? _ _ c0
       have zr_w1 : w.heap.size + 1 + 1 + 1 < w1.heap.size := World.block_lt_of_cell? _ _ r0))
  exact bodyPost_ret (v := .agg #[.int .i32 px, .int .i32 py]) (by simp [results, Tryz.results59, go_sem, r0, r1]) rfl ⟨rfl, by repeat first | exact gg | refine kep_set ?_ (by first | (simp; done) | (simp; omega)) _⟩
set_option maxRecDepth 100000 in
set_option maxHeartbeats 4000000 in
theorem rne_pos {px py qx qy cx cy dx dy ux uy n d x y sx sy : Int} (H : Rg px py qx qy cx cy) (hx : qx - px = dx) (hy : qy - py = dy) (hu : cx - px = ux) (hv : cy - py = uy) (hd : sqP dx dy = d) (hz : d ≠ 0) (hn : paP ux uy dx dy = n) (h9 : stP dx n d = sx) (h10 : stP dy n d = sy) (hX : px + sx = x) (hY : py + sy = y) : RNe px py qx qy cx cy x y := fun w => by
  have C2 := Lib.hid (rpa H hx hy hu hv hn)
  obtain ⟨h1, h2, h3, h4, h5, h6, h7, h8⟩ := H
  rw [hx] at h7
  rw [hy] at h8
  have C1 := Lib.hid (rsq h1 h2 h3 h4 h7 h8 hx hy hd)
  have hnn := paP_in ux uy dx dy
  rw [hn, hd] at hnn
  have hdd := (sqP_dn h7 h8).2
  rw [hd] at hdd
  have m1 := mdv_st (show 0 < d by omega) hnn.1 hnn.2 h7
  have m2 := mdv_st (show 0 < d by omega) hnn.1 hnn.2 h8
  have b1 := st_box hnn.1 hnn.2 hx
  have b2 := st_box hnn.1 hnn.2 hy
  have b3 := stP_in (dx := dx) hnn.1 hnn.2
  have b4 := stP_in (dx := dy) hnn.1 hnn.2
  rw [h9] at m1 b1 b3
  rw [h10] at m2 b2 b4
  have C3 : Hid (∀ w, Calls Tryz.prog 81 #[.int .i64 dx, .int .i64 n, .int .i64 d] w fun e w' => e = .returned (.tuple #[.int .i64 sx, .int .i64 0]) ∧ Kep w.heap.size w w') := Lib.hid (fun w => by rw [← m1.1, ← m1.2]; exact kep_calls (refmd_any dx n d (by unfold I64; omega) (by unfold I64; omega) (by unfold I64; omega) w))
  have C4 : Hid (∀ w, Calls Tryz.prog 81 #[.int .i64 dy, .int .i64 n, .int .i64 d] w fun e w' => e = .returned (.tuple #[.int .i64 sy, .int .i64 0]) ∧ Kep w.heap.size w w') := Lib.hid (fun w => by rw [← m2.1, ← m2.2]; exact kep_calls (refmd_any dy n d (by unfold I64; omega) (by unfold I64; omega) (by unfold I64; omega) w))
  have e0 : IntKind.i64.wrap px = px := by rw [IntKind.wrap_i64]; omega
  have e1 : IntKind.i64.wrap py = py := by rw [IntKind.wrap_i64]; omega
  have e2 : IntKind.i64.wrap qx = qx := by rw [IntKind.wrap_i64]; omega
  have e3 : IntKind.i64.wrap qy = qy := by rw [IntKind.wrap_i64]; omega
  have e4 : IntKind.i64.wrap cx = cx := by rw [IntKind.wrap_i64]; omega
  have e5 : IntKind.i64.wrap cy = cy := by rw [IntKind.wrap_i64]; omega
  have f0 : IntKind.i64.wrap (qx - px) = dx := by rw [IntKind.wrap_i64]; omega
  have f1 : IntKind.i64.wrap (qy - py) = dy := by rw [IntKind.wrap_i64]; omega
  have f2 : IntKind.i32.wrap sx = sx := by rw [IntKind.wrap_i32]; omega
  have f3 : IntKind.i32.wrap sy = sy := by rw [IntKind.wrap_i32]; omega
  have f4 : IntKind.i32.wrap (px + sx) = x := by rw [IntKind.wrap_i32]; omega
  have f5 : IntKind.i32.wrap (py + sy) = y := by rw [IntKind.wrap_i32]; omega
  have hz0 : (d == 0) = false := by simp; omega
  clear h1 h2 h3 h4 h5 h6 h7 h8 hx hy hu hv hn hd hz h9 h10 hX hY m1 m2 b1 b2 b3 b4 hdd hnn
  go_enter Tryz.func59, Tryz.ntmps59
  go_wp2_with (first
    | ((with_reducible refine (C1.out _).mono ?_); rintro e w1 ⟨rfl, g1⟩
       have p0 := Kep.all g1 (a := ⟨w.heap.size, 0, none⟩) (v := .int .i32 px) (by (repeat (first | rw [World.cell?_drew] | rw [World.cell?_alloc_past _ _ _ (by first | (simp; done) | (simp; omega))])); rw [World.cell?_alloc_at _ _ _ _ (by simp)]; rfl)
       have p1 := Kep.all g1 (a := ⟨w.heap.size, 1, none⟩) (v := .int .i32 py) (by (repeat (first | rw [World.cell?_drew] | rw [World.cell?_alloc_past _ _ _ (by first | (simp; done) | (simp; omega))])); rw [World.cell?_alloc_at _ _ _ _ (by simp)]; rfl)
       have q0 := Kep.all g1 (a := ⟨w.heap.size + 1, 0, none⟩) (v := .int .i32 qx) (by (repeat (first | rw [World.cell?_drew] | rw [World.cell?_alloc_past _ _ _ (by first | (simp; done) | (simp; omega))])); rw [World.cell?_alloc_at _ _ _ _ (by simp)]; rfl)
       have q1 := Kep.all g1 (a := ⟨w.heap.size + 1, 1, none⟩) (v := .int .i32 qy) (by (repeat (first | rw [World.cell?_drew] | rw [World.cell?_alloc_past _ _ _ (by first | (simp; done) | (simp; omega))])); rw [World.cell?_alloc_at _ _ _ _ (by simp)]; rfl)
       have c0 := Kep.all g1 (a := ⟨w.heap.size + 1 + 1, 0, none⟩) (v := .int .i32 cx) (by (repeat (first | rw [World.cell?_drew] | rw [World.cell?_alloc_past _ _ _ (by first | (simp; done) | (simp; omega))])); rw [World.cell?_alloc_at _ _ _ _ (by simp)]; rfl)
       have c1 := Kep.all g1 (a := ⟨w.heap.size + 1 + 1, 1, none⟩) (v := .int .i32 cy) (by (repeat (first | rw [World.cell?_drew] | rw [World.cell?_alloc_past _ _ _ (by first | (simp; done) | (simp; omega))])); rw [World.cell?_alloc_at _ _ _ _ (by simp)]; rfl)
       have r0 := Kep.all g1 (a := ⟨w.heap.size + 1 + 1 + 1, 0, none⟩) (v := .int .i32 0) (by (repeat (first | rw [World.cell?_drew] | rw [World.cell?_alloc_past _ _ _ (by first | (simp; done) | (simp; omega))])); rw [World.cell?_alloc_at _ _ _ _ (by simp)]; rfl)
       have r1 := Kep.all g1 (a := ⟨w.heap.size + 1 + 1 + 1, 1, none⟩) (v := .int .i32 0) (by (repeat (first | rw [World.cell?_drew] | rw [World.cell?_alloc_past _ _ _ (by first | (simp; done) | (simp; omega))])); rw [World.cell?_alloc_at _ _ _ _ (by simp)]; rfl)
       have gg := kep_next (kep_more (kep_more (kep_more (kep_more (Kep.refl _ _) _) _) _) _) g1
       have sr0 := kep_some g1 (a := ⟨w.heap.size + 1 + 1 + 1, 0, none⟩) (by (repeat (first | rw [World.cell?_drew] | rw [World.cell?_alloc_past _ _ _ (by first | (simp; done) | (simp; omega))])); rw [World.cell?_alloc_at _ _ _ _ (by simp)]; rfl)
       have sr1 := kep_some g1 (a := ⟨w.heap.size + 1 + 1 + 1, 1, none⟩) (by (repeat (first | rw [World.cell?_drew] | rw [World.cell?_alloc_past _ _ _ (by first | (simp; done) | (simp; omega))])); rw [World.cell?_alloc_at _ _ _ _ (by simp)]; rfl)
       have fr0 := kep_froz g1 (a := ⟨w.heap.size + 1 + 1 + 1, 0, none⟩) (by (repeat (first | rw [World.cell?_drew] | rw [World.cell?_alloc_past _ _ _ (by first | (simp; done) | (simp; omega))])); rw [World.cell?_alloc_at _ _ _ _ (by simp)]; rfl) (by (repeat (first | rw [World.frozen?_drew] | rw [World.frozen?_alloc_past _ _ _ (by first | (simp; done) | (simp; omega))])); rw [World.frozen?_alloc_at _ _ _ _ (by simp)])
       have fr1 := kep_froz g1 (a := ⟨w.heap.size + 1 + 1 + 1, 1, none⟩) (by (repeat (first | rw [World.cell?_drew] | rw [World.cell?_alloc_past _ _ _ (by first | (simp; done) | (simp; omega))])); rw [World.cell?_alloc_at _ _ _ _ (by simp)]; rfl) (by (repeat (first | rw [World.frozen?_drew] | rw [World.frozen?_alloc_past _ _ _ (by first | (simp; done) | (simp; omega))])); rw [World.frozen?_alloc_at _ _ _ _ (by simp)])
       have zp_w1 : w.heap.size < w1.heap.size := World.block_lt_of_cell? _ _ p0
       have zq_w1 : w.heap.size + 1 < w1.heap.size := World.block_lt_of_cell? _ _ q0
       have zc_w1 : w.heap.size + 1 + 1 < w1.heap.size := World.block_lt_of_cell? _ _ c0
       have zr_w1 : w.heap.size + 1 + 1 + 1 < w1.heap.size := World.block_lt_of_cell? _ _ r0)
    | ((with_reducible refine (C2.out _).mono ?_); rintro e w2 ⟨rfl, g2⟩
       replace fr0 := kep_froz g2 sr0 fr0
       replace sr0 := kep_some g2 sr0
       replace fr1 := kep_froz g2 sr1 fr1
       replace sr1 := kep_some g2 sr1
       replace p0 := Kep.all g2 (a := ⟨w.heap.size, 0, none⟩) (v := .int .i32 px) p0
       replace p1 := Kep.all g2 (a := ⟨w.heap.size, 1, none⟩) (v := .int .i32 py) p1
       replace q0 := Kep.all g2 (a := ⟨w.heap.size + 1, 0, none⟩) (v := .int .i32 qx) q0
       replace q1 := Kep.all g2 (a := ⟨w.heap.size + 1, 1, none⟩) (v := .int .i32 qy) q1
       replace c0 := Kep.all g2 (a := ⟨w.heap.size + 1 + 1, 0, none⟩) (v := .int .i32 cx) c0
       replace c1 := Kep.all g2 (a := ⟨w.heap.size + 1 + 1, 1, none⟩) (v := .int .i32 cy) c1
       replace r0 := Kep.all g2 (a := ⟨w.heap.size + 1 + 1 + 1, 0, none⟩) (v := .int .i32 0) r0
       replace r1 := Kep.all g2 (a := ⟨w.heap.size + 1 + 1 + 1, 1, none⟩) (v := .int .i32 0) r1
       replace gg := kep_next gg g2
       have zp_w2 : w.heap.size < w2.heap.size := World.block_lt_of_cell? _ _ p0
       have zq_w2 : w.heap.size + 1 < w2.heap.size := World.block_lt_of_cell? _ _ q0
       have zc_w2 : w.heap.size + 1 + 1 < w2.heap.size := World.block_lt_of_cell? _ _ c0
       have zr_w2 : w.heap.size + 1 + 1 + 1 < w2.heap.size := World.block_lt_of_cell? _ _ r0)
    | ((with_reducible refine (C3.out _).mono ?_); rintro e w3 ⟨rfl, g3⟩
       replace fr0 := kep_froz g3 sr0 fr0
       replace sr0 := kep_some g3 sr0
       replace fr1 := kep_froz g3 sr1 fr1
       replace sr1 := kep_some g3 sr1
       replace p0 := Kep.all g3 (a := ⟨w.heap.size, 0, none⟩) (v := .int .i32 px) p0
       replace p1 := Kep.all g3 (a := ⟨w.heap.size, 1, none⟩) (v := .int .i32 py) p1
       replace q0 := Kep.all g3 (a := ⟨w.heap.size + 1, 0, none⟩) (v := .int .i32 qx) q0
       replace q1 := Kep.all g3 (a := ⟨w.heap.size + 1, 1, none⟩) (v := .int .i32 qy) q1
       replace c0 := Kep.all g3 (a := ⟨w.heap.size + 1 + 1, 0, none⟩) (v := .int .i32 cx) c0
       replace c1 := Kep.all g3 (a := ⟨w.heap.size + 1 + 1, 1, none⟩) (v := .int .i32 cy) c1
       replace r0 := Kep.all g3 (a := ⟨w.heap.size + 1 + 1 + 1, 0, none⟩) (v := .int .i32 0) r0
       replace r1 := Kep.all g3 (a := ⟨w.heap.size + 1 + 1 + 1, 1, none⟩) (v := .int .i32 0) r1
       replace gg := kep_next gg g3
       have zp_w3 : w.heap.size < w3.heap.size := World.block_lt_of_cell? _ _ p0
       have zq_w3 : w.heap.size + 1 < w3.heap.size := World.block_lt_of_cell? _ _ q0
       have zc_w3 : w.heap.size + 1 + 1 < w3.heap.size := World.block_lt_of_cell? _ _ c0
       have zr_w3 : w.heap.size + 1 + 1 + 1 < w3.heap.size := World.block_lt_of_cell? _ _ r0)
    | ((with_reducible refine (C4.out _).mono ?_); rintro e w4 ⟨rfl, g4⟩
       replace fr0 := kep_froz g4 sr0 fr0
       replace sr0 := kep_some g4 sr0
       replace fr1 := kep_froz g4 sr1 fr1
       replace sr1 := kep_some g4 sr1
       replace p0 := Kep.all g4 (a := ⟨w.heap.size, 0, none⟩) (v := .int .i32 px) p0
       replace p1 := Kep.all g4 (a := ⟨w.heap.size, 1, none⟩) (v := .int .i32 py) p1
       replace q0 := Kep.all g4 (a := ⟨w.heap.size + 1, 0, none⟩) (v := .int .i32 qx) q0
       replace q1 := Kep.all g4 (a := ⟨w.heap.size + 1, 1, none⟩) (v := .int .i32 qy) q1
       replace c0 := Kep.all g4 (a := ⟨w.heap.size + 1 + 1, 0, none⟩) (v := .int .i32 cx) c0
       replace c1 := Kep.all g4 (a := ⟨w.heap.size + 1 + 1, 1, none⟩) (v := .int .i32 cy) c1
       replace r0 := Kep.all g4 (a := ⟨w.heap.size + 1 + 1 + 1, 0, none⟩) (v := .int .i32 0) r0
       replace r1 := Kep.all g4 (a := ⟨w.heap.size + 1 + 1 + 1, 1, none⟩) (v := .int .i32 0) r1
       replace gg := kep_next gg g4
       have zp_w4 : w.heap.size < w4.heap.size := World.block_lt_of_cell? _ _ p0
       have zq_w4 : w.heap.size + 1 < w4.heap.size := World.block_lt_of_cell? _ _ q0
       have zc_w4 : w.heap.size + 1 + 1 < w4.heap.size := World.block_lt_of_cell? _ _ c0
       have zr_w4 : w.heap.size + 1 + 1 + 1 < w4.heap.size := World.block_lt_of_cell? _ _ r0))
  exact bodyPost_ret (v := .agg #[.int .i32 x, .int .i32 y]) (by simp [results, Tryz.results59, go_sem, r0, r1]) rfl ⟨rfl, by repeat first | exact gg | refine kep_set ?_ (by first | (simp; done) | (simp; omega)) _⟩
end Go.Proofs.YtangalkbjochjaaGreatDoor
end

section
/-
  Package point: the reference's DistSq, In, Right; all its results of a segment and a point.
-/
namespace Go.Proofs.YtangalkbjochjaaGreatDoor
open Go.RowKit Go.Lib

/-- The results for a segment and a point. -/
structure Pt (px py qx qy cx cy dx dy ux uy d n x y t : Int) : Prop where
  hx : qx - px = dx
  hy : qy - py = dy
  hu : cx - px = ux
  hv : cy - py = uy
  hd : sqP dx dy = d
  hn : paP ux uy dx dy = n
  hX : px + stP dx n d = x
  hY : py + stP dy n d = y
  ht : lsq (x - cx) (y - cy) = t
theorem pt_ex (px py qx qy cx cy : Int) : ∃ dx dy ux uy d n x y t, Pt px py qx qy cx cy dx dy ux uy d n x y t := ⟨_, _, _, _, _, _, _, _, _, ⟨rfl, rfl, rfl, rfl, rfl, rfl, rfl, rfl, rfl⟩⟩
theorem Pt.par {px py qx qy cx cy dx dy ux uy d n x y t : Int} (P : Pt px py qx qy cx cy dx dy ux uy d n x y t) : 0 ≤ n ∧ n ≤ d := by
  have := paP_in ux uy dx dy
  rw [P.hn, P.hd] at this
  exact this
theorem Pt.box {px py qx qy cx cy dx dy ux uy d n x y t : Int} (P : Pt px py qx qy cx cy dx dy ux uy d n x y t) : (min px qx ≤ x ∧ x ≤ max px qx) ∧ (min py qy ≤ y ∧ y ≤ max py qy) := by
  have h := P.par
  have h1 := st_box h.1 h.2 P.hx
  have h2 := st_box h.1 h.2 P.hy
  rw [P.hX] at h1
  rw [P.hY] at h2
  exact ⟨h1, h2⟩
theorem Pt.ind {px py qx qy cx cy dx dy ux uy d n x y t : Int} (P : Pt px py qx qy cx cy dx dy ux uy d n x y t) (H : Rg px py qx qy cx cy) : InD (x - cx) ∧ InD (y - cy) := by
  obtain ⟨h1, h2⟩ := P.box
  obtain ⟨a1, a2, a3, a4, a5, a6, _, _⟩ := H
  unfold InD
  omega
theorem Pt.csq {px py qx qy cx cy dx dy ux uy d n x y t : Int} (P : Pt px py qx qy cx cy dx dy ux uy d n x y t) (H : Rg px py qx qy cx cy) : RSq px py qx qy d := rsq H.hpx H.hpy H.hqx H.hqy (by have := H.hdx; rw [P.hx] at this; exact this) (by have := H.hdy; rw [P.hy] at this; exact this) P.hx P.hy P.hd
theorem Pt.cpa {px py qx qy cx cy dx dy ux uy d n x y t : Int} (P : Pt px py qx qy cx cy dx dy ux uy d n x y t) (H : Rg px py qx qy cx cy) : RPa px py qx qy cx cy n := rpa H P.hx P.hy P.hu P.hv P.hn
theorem Pt.cne {px py qx qy cx cy dx dy ux uy d n x y t : Int} (P : Pt px py qx qy cx cy dx dy ux uy d n x y t) (H : Rg px py qx qy cx cy) : RNe px py qx qy cx cy x y := by
  by_cases hz : d = 0
  · have h1 := P.hX
    have h2 := P.hY
    unfold stP at h1 h2
    rw [if_pos hz] at h1 h2
    rw [← h1, ← h2, Int.add_zero, Int.add_zero]
    exact rne_zero H P.hx P.hy (by rw [P.hd]; exact hz)
  · exact rne_pos H P.hx P.hy P.hu P.hv P.hd hz P.hn rfl rfl P.hX P.hY
/-- A point in range. -/
def inB (x y : Int) : Bool := decide (Cin x ∧ Cin y)
/-- A segment and a point in range. -/
def rgB (px py qx qy cx cy : Int) : Bool := inB px py && inB qx qy && inB cx cy && decide (Din (qx - px) ∧ Din (qy - py))
theorem rgB_iff {px py qx qy cx cy : Int} : rgB px py qx qy cx cy = true ↔ Rg px py qx qy cx cy := by
  unfold rgB inB
  simp only [Bool.and_eq_true, decide_eq_true_iff]
  constructor
  · rintro ⟨⟨⟨⟨h1, h2⟩, h3, h4⟩, h5, h6⟩, h7, h8⟩
    exact ⟨h1, h2, h3, h4, h5, h6, h7, h8⟩
  · rintro ⟨h1, h2, h3, h4, h5, h6, h7, h8⟩
    exact ⟨⟨⟨⟨h1, h2⟩, h3, h4⟩, h5, h6⟩, h7, h8⟩
end Go.Proofs.YtangalkbjochjaaGreatDoor
end

section
/-
  Package segment: its slow reference.
-/
namespace Go.Proofs.YtangalkbjochjaaGreatDoor
open Go.RowKit Go.Lib

/-- Two points in range, and the square of their distance. -/
structure Good (x : Tw) : Prop where
  a : Cin x.a
  b : Cin x.b
  c : Cin x.c
  d : Cin x.d
  t : x.t = sq2 (x.c - x.a) (x.d - x.b)
theorem good_pk {x y : Tw} (hx : Good x) (hy : Good y) : Good (pk x y) := by
  rcases pk_or x y with q | q <;> rw [q] <;> assumption
theorem good_mk {a b c d : Int} (h1 : Cin a) (h2 : Cin b) (h3 : Cin c) (h4 : Cin d) : Good (mkT a b c d) := ⟨h1, h2, h3, h4, rfl⟩
abbrev RD2 (a b c d t : Int) : Prop := ∀ w, Calls Tryz.prog 26 #[.agg #[.int .i32 a, .int .i32 b, .int .i32 c, .int .i32 d]] w fun e w' => e = .returned (.int .u64 t) ∧ Kep w.heap.size w w'
abbrev RCh (px py qx qy mx my nx ny : Int) (x : Tw) : Prop := ∀ w, Calls Tryz.prog 38 #[.agg #[.int .i32 px, .int .i32 py], .agg #[.int .i32 qx, .int .i32 qy], .agg #[.int .i32 mx, .int .i32 my], .agg #[.int .i32 nx, .int .i32 ny]] w fun e w' => e = .returned (.agg #[.int .i32 x.a, .int .i32 x.b, .int .i32 x.c, .int .i32 x.d]) ∧ Kep w.heap.size w w'
set_option maxRecDepth 100000 in
set_option maxHeartbeats 1000000 in
theorem rd2 {a b c d t : Int} (h1 : Cin a) (h2 : Cin b) (h3 : Cin c) (h4 : Cin d) (ht : sq2 (c - a) (d - b) = t) : RD2 a b c d t := fun w => by
  have C := Lib.hid (rlsq2 (a := c - a) (b := d - b) (by unfold Cin at *; unfold InD; omega) (by unfold Cin at *; unfold InD; omega) ht)
  have e0 : IntKind.i64.wrap a = a := by rw [IntKind.wrap_i64]; omega
  have e1 : IntKind.i64.wrap b = b := by rw [IntKind.wrap_i64]; omega
  have e2 : IntKind.i64.wrap c = c := by rw [IntKind.wrap_i64]; omega
  have e3 : IntKind.i64.wrap d = d := by rw [IntKind.wrap_i64]; omega
  have e4 : IntKind.i64.wrap (c - a) = c - a := by rw [IntKind.wrap_i64]; omega
  have e5 : IntKind.i64.wrap (d - b) = d - b := by rw [IntKind.wrap_i64]; omega
  clear h1 h2 h3 h4 ht
  go_enter Tryz.func26, Tryz.ntmps26
  go_wp2_with (first
    | ((with_reducible refine (C.out _).mono ?_); rintro e w2 ⟨rfl, rfl⟩))
  go_ret
  exact ⟨rfl, (kep_more (Kep.refl _ _) _)⟩
theorem Good.rd {x : Tw} (h : Good x) : RD2 x.a x.b x.c x.d x.t := rd2 h.a h.b h.c h.d h.t.symm
/-- Two segments in range. -/
def sgB (px py qx qy mx my nx ny : Int) : Bool := rgB px py qx qy mx my && rgB mx my nx ny px py
theorem sg_of {px py qx qy mx my nx ny : Int} (h : sgB px py qx qy mx my nx ny = true) : Rg px py qx qy mx my ∧ Rg mx my nx ny px py := by
  unfold sgB at h
  rw [Bool.and_eq_true] at h
  exact ⟨rgB_iff.1 h.1, rgB_iff.1 h.2⟩
theorem rneF {px py qx qy cx cy : Int} (H : Rg px py qx qy cx cy) : RNe px py qx qy cx cy (nX px py qx qy cx cy) (nY px py qx qy cx cy) := Pt.cne ⟨rfl, rfl, rfl, rfl, rfl, rfl, rfl, rfl, rfl⟩ H
theorem nX_cin {px py qx qy cx cy : Int} (H : Rg px py qx qy cx cy) : Cin (nX px py qx qy cx cy) ∧ Cin (nY px py qx qy cx cy) := by
  have P : Pt px py qx qy cx cy (qx - px) (qy - py) (cx - px) (cy - py) _ _ (nX px py qx qy cx cy) (nY px py qx qy cx cy) _ := ⟨rfl, rfl, rfl, rfl, rfl, rfl, rfl, rfl, rfl⟩
  obtain ⟨h1, h2⟩ := P.box
  obtain ⟨a1, a2, a3, a4, _, _, _, _⟩ := H
  unfold Cin at *
  omega
/-- The four ranges. -/
theorem sg_rg {px py qx qy mx my nx ny : Int} (h : sgB px py qx qy mx my nx ny = true) : Rg mx my nx ny px py ∧ Rg mx my nx ny qx qy ∧ Rg px py qx qy mx my ∧ Rg px py qx qy nx ny := by
  obtain ⟨⟨h1, h2, h3, h4, h5, h6, h7, h8⟩, h9, h10, h11, h12, _, _, h13, h14⟩ := sg_of h
  exact ⟨⟨h9, h10, h11, h12, h1, h2, h13, h14⟩, ⟨h9, h10, h11, h12, h3, h4, h13, h14⟩, ⟨h1, h2, h3, h4, h5, h6, h7, h8⟩, ⟨h1, h2, h3, h4, h11, h12, h7, h8⟩⟩
theorem sg_good {px py qx qy mx my nx ny : Int} (h : sgB px py qx qy mx my nx ny = true) : Good (tw0 px py qx qy mx my nx ny) ∧ Good (tw1 px py qx qy mx my nx ny) ∧ Good (tw2 px py qx qy mx my nx ny) ∧ Good (tw3 px py qx qy mx my nx ny) := by
  obtain ⟨h0, h1, h2, h3⟩ := sg_rg h
  exact ⟨good_mk h0.hcx h0.hcy (nX_cin h0).1 (nX_cin h0).2, good_mk h1.hcx h1.hcy (nX_cin h1).1 (nX_cin h1).2, good_mk (nX_cin h2).1 (nX_cin h2).2 h2.hcx h2.hcy, good_mk (nX_cin h3).1 (nX_cin h3).2 h3.hcx h3.hcy⟩
theorem sg_chs {px py qx qy mx my nx ny : Int} (h : sgB px py qx qy mx my nx ny = true) : Good (chs px py qx qy mx my nx ny) := by
  obtain ⟨h0, h1, h2, h3⟩ := sg_good h
  exact good_pk (good_pk (good_pk h0 h1) h2) h3
/-- The best of the first k. -/
def bsK (E0 E1 E2 E3 : Tw) : Nat → Tw
  | 0 => E0
  | 1 => E0
  | 2 => pk E0 E1
  | 3 => pk (pk E0 E1) E2
  | _ => pk (pk (pk E0 E1) E2) E3
/-- Two points in a block of the call's own. -/
structure Bc (w : World) (b : Nat) (x : Tw) : Prop where
  c0 : w.cell? ⟨b, 0, none⟩ = some (.int .i32 x.a)
  c1 : w.cell? ⟨b, 1, none⟩ = some (.int .i32 x.b)
  c2 : w.cell? ⟨b, 2, none⟩ = some (.int .i32 x.c)
  c3 : w.cell? ⟨b, 3, none⟩ = some (.int .i32 x.d)
  f : ∀ j, w.frozen? ⟨b, j, none⟩ = false
theorem Bc.kep {w w' : World} {b : Nat} {x : Tw} (h : Bc w b x) (g : Kep w.heap.size w w') : Bc w' b x := ⟨g.all h.c0, g.all h.c1, g.all h.c2, g.all h.c3, fun j => (g.frozen (p := ⟨b, j, none⟩) (World.block_lt_of_cell? w ⟨b, 0, none⟩ h.c0)).trans (h.f j)⟩
theorem Bc.set {w : World} {b : Nat} {x : Tw} (h : Bc w b x) (y : Tw) : Bc ((((w.setCell ⟨b, 0, none⟩ (.int .i32 y.a)).setCell ⟨b, 1, none⟩ (.int .i32 y.b)).setCell ⟨b, 2, none⟩ (.int .i32 y.c)).setCell ⟨b, 3, none⟩ (.int .i32 y.d)) b y := by
  refine ⟨?_, ?_, ?_, ?_, fun j => by rw [World.frozen?_setCell, World.frozen?_setCell, World.frozen?_setCell, World.frozen?_setCell]; exact h.f j⟩
  · exact (World.cell?_setCell_other _ _ _ _ (by simp)).trans ((World.cell?_setCell_other _ _ _ _ (by simp)).trans ((World.cell?_setCell_other _ _ _ _ (by simp)).trans (World.cell?_setCell_same _ _ _ h.c0)))
  · exact (World.cell?_setCell_other _ _ _ _ (by simp)).trans ((World.cell?_setCell_other _ _ _ _ (by simp)).trans (World.cell?_setCell_same _ _ _ ((World.cell?_setCell_other _ _ _ _ (by simp)).trans h.c1)))
  · exact (World.cell?_setCell_other _ _ _ _ (by simp)).trans (World.cell?_setCell_same _ _ _ ((World.cell?_setCell_other _ _ _ _ (by simp)).trans ((World.cell?_setCell_other _ _ _ _ (by simp)).trans h.c2)))
  · exact World.cell?_setCell_same _ _ _ ((World.cell?_setCell_other _ _ _ _ (by simp)).trans ((World.cell?_setCell_other _ _ _ _ (by simp)).trans ((World.cell?_setCell_other _ _ _ _ (by simp)).trans h.c3)))
theorem pk_less {u v : Tw} (h : decide (v.t < u.t) = true) : pk u v = v := if_pos (of_decide_eq_true h)
theorem pk_not {u v : Tw} (h : decide (v.t < u.t) = false) : pk u v = u := if_neg (of_decide_eq_false h)
end Go.Proofs.YtangalkbjochjaaGreatDoor
end
