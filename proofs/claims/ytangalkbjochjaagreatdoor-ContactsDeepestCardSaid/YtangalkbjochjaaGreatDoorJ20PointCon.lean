import Derived.Test.YtangalkbjochjaaGreatDoorJ18PointRef
import Derived.Test.YtangalkbjochjaaGreatDoorJ04RootArith
import Derived.Deep.DeepCutAuto
import Derived.Deep.QuietTactic
import Derived.BigQuiet
import Derived.Test.YtangalkbjochjaaGreatDoorJ19SegRef2

/-! J20PointCon: PointCon, PointOps, SegCon. -/

section
/-
  Package point: what the laws ask of the program.
-/
namespace Go.Proofs.YtangalkbjochjaaGreatDoor
open Go.RowKit Go.Lib

abbrev PPar (px py qx qy cx cy n d : Int) : Prop := ∀ w, Calls Tryz.prog 127 #[.agg #[.int .i32 px, .int .i32 py], .agg #[.int .i32 qx, .int .i32 qy], .agg #[.int .i32 cx, .int .i32 cy]] w fun e w' => e = .returned (.tuple #[.int .i64 n, .int .i64 d]) ∧ Kep w.heap.size w w'
abbrev PNe (px py qx qy cx cy x y : Int) : Prop := ∀ w, Calls Tryz.prog 97 #[.agg #[.int .i32 px, .int .i32 py], .agg #[.int .i32 qx, .int .i32 qy], .agg #[.int .i32 cx, .int .i32 cy]] w fun e w' => e = .returned (.agg #[.int .i32 x, .int .i32 y]) ∧ Kep w.heap.size w w'
abbrev PDs (px py qx qy cx cy t : Int) : Prop := ∀ w, Calls Tryz.prog 130 #[.agg #[.int .i32 px, .int .i32 py], .agg #[.int .i32 qx, .int .i32 qy], .agg #[.int .i32 cx, .int .i32 cy]] w fun e w' => e = .returned (.int .u64 t) ∧ Kep w.heap.size w w'
/-- What the laws ask of the program. -/
structure NOps : Prop where
  param : ∀ {px py qx qy cx cy dx dy ux uy d n x y t : Int}, Pt px py qx qy cx cy dx dy ux uy d n x y t → Rg px py qx qy cx cy → PPar px py qx qy cx cy n d
  near : ∀ {px py qx qy cx cy dx dy ux uy d n x y t : Int}, Pt px py qx qy cx cy dx dy ux uy d n x y t → Rg px py qx qy cx cy → PNe px py qx qy cx cy x y
  dist : ∀ {px py qx qy cx cy dx dy ux uy d n x y t : Int}, Pt px py qx qy cx cy dx dy ux uy d n x y t → Rg px py qx qy cx cy → PDs px py qx qy cx cy t
theorem vec_cmp (a b c d : Int) (z : Bool) (h : decide (a = c ∧ b = d) = z) (w : World) : (binOp .eql 33 (.agg #[.int .i32 a, .int .i32 b]) (.agg #[.int .i32 c, .int .i32 d])).run Tryz.prog w = .ok (.bool z) w := by
  rw [← h]
  by_cases e0 : a = c
  · by_cases e1 : b = d
    · subst e0; subst e1
      simp [go_sem]
    · subst e0
      simp [go_sem, e1]
  · simp [go_sem, e0]
theorem vec_ncmp (a b c d : Int) (z : Bool) (h : decide (a = c ∧ b = d) = z) (w : World) : (binOp .neq 33 (.agg #[.int .i32 a, .int .i32 b]) (.agg #[.int .i32 c, .int .i32 d])).run Tryz.prog w = .ok (.bool (!z)) w := by
  rw [← h]
  by_cases e0 : a = c
  · by_cases e1 : b = d
    · subst e0; subst e1
      simp [go_sem]
    · subst e0
      simp [go_sem, e1]
  · simp [go_sem, e0]
end Go.Proofs.YtangalkbjochjaaGreatDoor
end

section
/-
  Package point: its functions.
-/
namespace Go.Proofs.YtangalkbjochjaaGreatDoor
open Go.RowKit Go.Lib

abbrev KDf (a b c d x y : Int) : Prop := ∀ w, Calls Tryz.prog 74 #[.agg #[.int .i32 a, .int .i32 b], .agg #[.int .i32 c, .int .i32 d]] w fun e w' => e = .returned (.tuple #[.int .i64 x, .int .i64 y]) ∧ Kep w.heap.size w w'
theorem kdf {a b c d x y : Int} (ha : Cin a) (hb : Cin b) (hc : I32 c) (hd : I32 d) (hx : c - a = x) (hy : d - b = y) : KDf a b c d x y := fun w => kep_calls (dff4 (by unfold I32; omega) (by unfold I32; omega) hc hd hx hy w)
theorem lim_mm {t d : Int} (h : 0 ≤ d) : min (max t 0) d = limP t d := by
  unfold limP
  repeat' split
  all_goals omega
theorem cin32 {a : Int} (h : Cin a) : I32 a := by unfold I32; unfold Cin at h; omega
theorem sq_lsq {a b d : Int} (h : sqP a b = d) : lsq a b = d := h
set_option maxRecDepth 100000 in
set_option maxHeartbeats 1000000 in
theorem ppar {px py qx qy cx cy dx dy ux uy d n x y t : Int} (P : Pt px py qx qy cx cy dx dy ux uy d n x y t) (H : Rg px py qx qy cx cy) : PPar px py qx qy cx cy n d := fun w => by
  obtain ⟨h1, h2, h3, h4, h5, h6, h7, h8⟩ := H
  have C1 := Lib.hid (kdf h1 h2 (cin32 h3) (cin32 h4) P.hx P.hy)
  have C2 := Lib.hid (kdf h1 h2 (cin32 h5) (cin32 h6) P.hu P.hv)
  rw [P.hx] at h7
  rw [P.hy] at h8
  have C3 := Lib.hid (lsq2 (a := dx) (b := dy) (t := d) (by unfold InD; omega) (by unfold InD; omega) (sq_lsq P.hd))
  have hd0 := sqP_dn h7 h8
  have k1 := mul_dn (u := ux) (by have := P.hu; unfold Cin at *; omega) h7
  have k2 := mul_dn (u := uy) (by have := P.hv; unfold Cin at *; omega) h8
  have hn := P.hn
  unfold paP at hn
  rw [P.hd] at hn hd0
  rw [← lim_mm hd0.1] at hn
  obtain ⟨xx, hxx⟩ : ∃ x, x = ux * dx := ⟨_, rfl⟩
  obtain ⟨yy, hyy⟩ : ∃ x, x = uy * dy := ⟨_, rfl⟩
  rw [← hxx] at k1 hn
  rw [← hyy] at k2 hn
  obtain ⟨s, hs⟩ : ∃ t, t = xx + yy := ⟨_, rfl⟩
  rw [← hs] at hn
  obtain ⟨m, hm⟩ : ∃ t, t = max s 0 := ⟨_, rfl⟩
  rw [← hm] at hn
  have e0 : IntKind.i64.wrap d = d := by rw [IntKind.wrap_i64]; omega
  have f4 : IntKind.i64.wrap (ux * dx) = xx := by rw [← hxx, IntKind.wrap_i64]; omega
  have f5 : IntKind.i64.wrap (uy * dy) = yy := by rw [← hyy, IntKind.wrap_i64]; omega
  have f6 : IntKind.i64.wrap (xx + yy) = s := by rw [← hs, IntKind.wrap_i64]; omega
  have f7 : max s 0 = m := hm.symm
  clear h1 h2 h3 h4 h5 h6 h7 h8 hxx hyy hs hm k1 k2 P hd0
  go_enter Tryz.func127, Tryz.ntmps127
  go_wp2_with (first
    | ((with_reducible refine (C1.out _).mono ?_); rintro e w1 ⟨rfl, g1⟩
       have p0 := Kep.all g1 (a := ⟨w.heap.size, 0, none⟩) (v := .int .i32 px) (by (repeat (first | rw [World.cell?_drew] | rw [World.cell?_alloc_past _ _ _ (by first | (simp; done) | (simp; omega))])); rw [World.cell?_alloc_at _ _ _ _ (by simp)]; rfl)
       have p1 := Kep.all g1 (a := ⟨w.heap.size, 1, none⟩) (v := .int .i32 py) (by (repeat (first | rw [World.cell?_drew] | rw [World.cell?_alloc_past _ _ _ (by first | (simp; done) | (simp; omega))])); rw [World.cell?_alloc_at _ _ _ _ (by simp)]; rfl)
       have q0 := Kep.all g1 (a := ⟨w.heap.size + 1, 0, none⟩) (v := .int .i32 qx) (by (repeat (first | rw [World.cell?_drew] | rw [World.cell?_alloc_past _ _ _ (by first | (simp; done) | (simp; omega))])); rw [World.cell?_alloc_at _ _ _ _ (by simp)]; rfl)
       have q1 := Kep.all g1 (a := ⟨w.heap.size + 1, 1, none⟩) (v := .int .i32 qy) (by (repeat (first | rw [World.cell?_drew] | rw [World.cell?_alloc_past _ _ _ (by first | (simp; done) | (simp; omega))])); rw [World.cell?_alloc_at _ _ _ _ (by simp)]; rfl)
       have c0 := Kep.all g1 (a := ⟨w.heap.size + 1 + 1, 0, none⟩) (v := .int .i32 cx) (by (repeat (first | rw [World.cell?_drew] | rw [World.cell?_alloc_past _ _ _ (by first | (simp; done) | (simp; omega))])); rw [World.cell?_alloc_at _ _ _ _ (by simp)]; rfl)
       have c1 := Kep.all g1 (a := ⟨w.heap.size + 1 + 1, 1, none⟩) (v := .int .i32 cy) (by (repeat (first | rw [World.cell?_drew] | rw [World.cell?_alloc_past _ _ _ (by first | (simp; done) | (simp; omega))])); rw [World.cell?_alloc_at _ _ _ _ (by simp)]; rfl)
       have gg := kep_next (kep_more (kep_more (kep_more (Kep.refl _ _) _) _) _) g1
       have zp_w1 : w.heap.size < w1.heap.size := World.block_lt_of_cell? _ _ p0
       have zq_w1 : w.heap.size + 1 < w1.heap.size := World.block_lt_of_cell? _ _ q0
       have zc_w1 : w.heap.size + 1 + 1 < w1.heap.size := World.block_lt_of_cell? _ _ c0)
    | ((with_reducible refine (C2.out _).mono ?_); rintro e w2 ⟨rfl, g2⟩
       replace p0 := Kep.all g2 (a := ⟨w.heap.size, 0, none⟩) (v := .int .i32 px) p0
       replace p1 := Kep.all g2 (a := ⟨w.heap.size, 1, none⟩) (v := .int .i32 py) p1
       replace c0 := Kep.all g2 (a := ⟨w.heap.size + 1 + 1, 0, none⟩) (v := .int .i32 cx) c0
       replace c1 := Kep.all g2 (a := ⟨w.heap.size + 1 + 1, 1, none⟩) (v := .int .i32 cy) c1
       replace gg := kep_next gg g2
       have zp_w2 : w.heap.size < w2.heap.size := World.block_lt_of_cell? _ _ p0
       have zc_w2 : w.heap.size + 1 + 1 < w2.heap.size := World.block_lt_of_cell? _ _ c0)
    | ((with_reducible refine (C3.out _).mono ?_); rintro e w' ⟨rfl, rfl⟩))
  go_ret2
  exact ⟨rfl, gg⟩
/-- What Nearest's own function returns, its numbers in the blocks a and b. -/
abbrev PAl (px dx n d x : Int) : Prop := ∀ (a b : Addr) w, w.cell? a = some (.int .i64 n) → w.cell? b = some (.int .i64 d) → Calls Tryz.prog 128 #[.int .i32 px, .int .i64 dx, .pointer (some a), .pointer (some b)] w fun e w' => e = .returned (.int .i32 x) ∧ Kep w.heap.size w w'
set_option maxRecDepth 100000 in
set_option maxHeartbeats 1000000 in
theorem palp {px dx n d s x qx : Int} (hp : Cin px) (hq : Cin qx) (hx : qx - px = dx) (hd : Din dx) (h0 : 0 ≤ n) (h1 : n ≤ d) (h2 : d ≤ 562949953421312) (hs : stP dx n d = s) (hX : px + s = x) : PAl px dx n d x := fun a b w ca cb => by
  have hm : mdv dx n d = s := by
    by_cases c : d = 0
    · subst c
      obtain rfl : n = 0 := by omega
      rw [stP_zero] at hs
      rw [← hs]
      rfl
    · rw [← hs]
      exact (mdv_st (by omega) h0 h1 hd).1
  have hb := st_box h0 h1 hx
  have hi := stP_in (dx := dx) h0 h1
  rw [hs] at hb hi
  obtain ⟨e9, he⟩ : ∃ e, e = mde dx n d := ⟨_, rfl⟩
  have C1 : Hid (∀ w, Calls Tryz.prog 129 #[.int .i64 dx, .int .i64 n, .int .i64 d] w fun e w' => e = .returned (.tuple #[.int .i64 s, .int .i64 e9]) ∧ Kep w.heap.size w w') := Lib.hid (fun w => by rw [← hm, he]; exact kep_calls (muldiv_any dx n d (by unfold I64; omega) (by unfold I64; omega) (by unfold I64; omega) w))
  have f2 : IntKind.i32.wrap s = s := by rw [IntKind.wrap_i32]; omega
  have f4 : IntKind.i32.wrap (px + s) = x := by rw [IntKind.wrap_i32]; omega
  clear hp hq hx hd h0 h1 h2 hs hX hm hb hi he
  go_enter Tryz.func128, Tryz.ntmps128
  go_wp2_with ((with_reducible refine (C1.out _).mono ?_); rintro e w1 ⟨rfl, g1⟩)
  go_ret
  exact ⟨rfl, g1⟩
set_option maxRecDepth 100000 in
set_option maxHeartbeats 2000000 in
theorem pne {px py qx qy cx cy dx dy ux uy d n x y t : Int} (P : Pt px py qx qy cx cy dx dy ux uy d n x y t) (H : Rg px py qx qy cx cy) : PNe px py qx qy cx cy x y := fun w => by
  have C1 := Lib.hid (ppar P H)
  have hp := P.par
  obtain ⟨h1, h2, h3, h4, h5, h6, h7, h8⟩ := H
  have C2 := Lib.hid (kdf h1 h2 (cin32 h3) (cin32 h4) P.hx P.hy)
  rw [P.hx] at h7
  rw [P.hy] at h8
  have hd0 := sqP_dn h7 h8
  rw [P.hd] at hd0
  have C3 := Lib.hid (palp h1 h3 P.hx h7 hp.1 hp.2 hd0.2 rfl P.hX)
  have C4 := Lib.hid (palp h2 h4 P.hy h8 hp.1 hp.2 hd0.2 rfl P.hY)
  clear h1 h2 h3 h4 h5 h6 h7 h8 hp P hd0
  have hmf : ∀ (fn : Fn) (first cap : Array Value) (w : World), (Instr.makeFunc fn first cap).run Tryz.prog w = .ok (.func fn first cap) w := fun _ _ _ _ => rfl
  go_enter Tryz.func97, Tryz.ntmps97
  go_wp2_with (first
    | ((with_reducible refine (C1.out _).mono ?_); rintro e w1 ⟨rfl, g1⟩
       have p0 := Kep.all g1 (a := ⟨w.heap.size, 0, none⟩) (v := .int .i32 px) (by (repeat (first | rw [World.cell?_drew] | rw [World.cell?_alloc_past _ _ _ (by first | (simp; done) | (simp; omega))])); rw [World.cell?_alloc_at _ _ _ _ (by simp)]; rfl)
       have p1 := Kep.all g1 (a := ⟨w.heap.size, 1, none⟩) (v := .int .i32 py) (by (repeat (first | rw [World.cell?_drew] | rw [World.cell?_alloc_past _ _ _ (by first | (simp; done) | (simp; omega))])); rw [World.cell?_alloc_at _ _ _ _ (by simp)]; rfl)
       have q0 := Kep.all g1 (a := ⟨w.heap.size + 1, 0, none⟩) (v := .int .i32 qx) (by (repeat (first | rw [World.cell?_drew] | rw [World.cell?_alloc_past _ _ _ (by first | (simp; done) | (simp; omega))])); rw [World.cell?_alloc_at _ _ _ _ (by simp)]; rfl)
       have q1 := Kep.all g1 (a := ⟨w.heap.size + 1, 1, none⟩) (v := .int .i32 qy) (by (repeat (first | rw [World.cell?_drew] | rw [World.cell?_alloc_past _ _ _ (by first | (simp; done) | (simp; omega))])); rw [World.cell?_alloc_at _ _ _ _ (by simp)]; rfl)
       have c0 := Kep.all g1 (a := ⟨w.heap.size + 1 + 1, 0, none⟩) (v := .int .i32 cx) (by (repeat (first | rw [World.cell?_drew] | rw [World.cell?_alloc_past _ _ _ (by first | (simp; done) | (simp; omega))])); rw [World.cell?_alloc_at _ _ _ _ (by simp)]; rfl)
       have c1 := Kep.all g1 (a := ⟨w.heap.size + 1 + 1, 1, none⟩) (v := .int .i32 cy) (by (repeat (first | rw [World.cell?_drew] | rw [World.cell?_alloc_past _ _ _ (by first | (simp; done) | (simp; omega))])); rw [World.cell?_alloc_at _ _ _ _ (by simp)]; rfl)
       have gg := kep_next (kep_more (kep_more (kep_more (kep_more (Kep.refl _ _) _) _) _) _) g1
       have sr0 := kep_some g1 (a := ⟨w.heap.size + 1 + 1 + 1, 0, none⟩) (by (repeat (first | rw [World.cell?_drew] | rw [World.cell?_alloc_past _ _ _ (by first | (simp; done) | (simp; omega))])); rw [World.cell?_alloc_at _ _ _ _ (by simp)]; rfl)
       have sr1 := kep_some g1 (a := ⟨w.heap.size + 1 + 1 + 1, 1, none⟩) (by (repeat (first | rw [World.cell?_drew] | rw [World.cell?_alloc_past _ _ _ (by first | (simp; done) | (simp; omega))])); rw [World.cell?_alloc_at _ _ _ _ (by simp)]; rfl)
       have fr0 := kep_froz g1 (a := ⟨w.heap.size + 1 + 1 + 1, 0, none⟩) (by (repeat (first | rw [World.cell?_drew] | rw [World.cell?_alloc_past _ _ _ (by first | (simp; done) | (simp; omega))])); rw [World.cell?_alloc_at _ _ _ _ (by simp)]; rfl) (by (repeat (first | rw [World.frozen?_drew] | rw [World.frozen?_alloc_past _ _ _ (by first | (simp; done) | (simp; omega))])); rw [World.frozen?_alloc_at _ _ _ _ (by simp)])
       have fr1 := kep_froz g1 (a := ⟨w.heap.size + 1 + 1 + 1, 1, none⟩) (by (repeat (first | rw [World.cell?_drew] | rw [World.cell?_alloc_past _ _ _ (by first | (simp; done) | (simp; omega))])); rw [World.cell?_alloc_at _ _ _ _ (by simp)]; rfl) (by (repeat (first | rw [World.frozen?_drew] | rw [World.frozen?_alloc_past _ _ _ (by first | (simp; done) | (simp; omega))])); rw [World.frozen?_alloc_at _ _ _ _ (by simp)])
       have zr_w1 : w.heap.size + 1 + 1 + 1 < w1.heap.size := by have := g1.size; simp at this; omega
       have zp_w1 : w.heap.size < w1.heap.size := World.block_lt_of_cell? _ _ p0
       have zq_w1 : w.heap.size + 1 < w1.heap.size := World.block_lt_of_cell? _ _ q0
       have zc_w1 : w.heap.size + 1 + 1 < w1.heap.size := World.block_lt_of_cell? _ _ c0)
    | ((with_reducible refine (C2.out _).mono ?_); rintro e w2 ⟨rfl, g2⟩
       replace fr0 := kep_froz g2 (kep_some (kep_more (kep_more (Kep.refl _ _) _) _) sr0) (kep_froz (kep_more (kep_more (Kep.refl _ _) _) _) sr0 fr0)
       replace sr0 := kep_some g2 (kep_some (kep_more (kep_more (Kep.refl _ _) _) _) sr0)
       replace fr1 := kep_froz g2 (kep_some (kep_more (kep_more (Kep.refl _ _) _) _) sr1) (kep_froz (kep_more (kep_more (Kep.refl _ _) _) _) sr1 fr1)
       replace sr1 := kep_some g2 (kep_some (kep_more (kep_more (Kep.refl _ _) _) _) sr1)
       have hn0 := Kep.all g2 (a := ⟨w1.heap.size, 0, none⟩) (v := .int .i64 n) (by (repeat (first | rw [World.cell?_drew] | rw [World.cell?_alloc_past _ _ _ (by first | (simp; done) | (simp; omega))])); rw [World.cell?_alloc_at _ _ _ _ (by simp)]; rfl)
       have hd0 := Kep.all g2 (a := ⟨w1.heap.size + 1, 0, none⟩) (v := .int .i64 d) (by (repeat (first | rw [World.cell?_drew] | rw [World.cell?_alloc_past _ _ _ (by first | (simp; done) | (simp; omega))])); rw [World.cell?_alloc_at _ _ _ _ (by simp)]; rfl)
       replace p0 := Kep.all g2 (a := ⟨w.heap.size, 0, none⟩) (v := .int .i32 px) (Kep.all (kep_more (kep_more (Kep.refl _ _) _) _) p0)
       replace p1 := Kep.all g2 (a := ⟨w.heap.size, 1, none⟩) (v := .int .i32 py) (Kep.all (kep_more (kep_more (Kep.refl _ _) _) _) p1)
       replace gg := kep_next (kep_more (kep_more gg _) _) g2
       have zp_w2 : w.heap.size < w2.heap.size := World.block_lt_of_cell? _ _ p0))
  refine wp_region_noPanic ?_
  refine wp_region_held_drew (S := (fun w' => w'.cell? ⟨w.heap.size, 0, none⟩ = some (.int .i32 px) ∧ w'.cell? ⟨w.heap.size, 1, none⟩ = some (.int .i32 py) ∧ w'.cell? ⟨w1.heap.size, 0, none⟩ = some (.int .i64 n) ∧ w'.cell? ⟨w1.heap.size + 1, 0, none⟩ = some (.int .i64 d) ∧ (w'.cell? ⟨w.heap.size + 1 + 1 + 1, 0, none⟩).isSome = true ∧ (w'.cell? ⟨w.heap.size + 1 + 1 + 1, 1, none⟩).isSome = true ∧ w'.frozen? ⟨w.heap.size + 1 + 1 + 1, 0, none⟩ = false ∧ w'.frozen? ⟨w.heap.size + 1 + 1 + 1, 1, none⟩ = false ∧ Kep w.heap.size w w')) (by kernel_rfl) (⟨by rw [World.cell?_drew]; exact p0, by rw [World.cell?_drew]; exact p1, by rw [World.cell?_drew]; exact hn0, by rw [World.cell?_drew]; exact hd0, by rw [World.cell?_drew]; exact sr0, by rw [World.cell?_drew]; exact sr1, by rw [World.frozen?_drew]; exact fr0, by rw [World.frozen?_drew]; exact fr1, kep_drew gg⟩) (fun hH => ?_)
  refine rtk 0 (oi := ⟨some 26, .move (.tmp 9), _, _, _, none⟩) (v := ?_) rfl ?_ hH ?_
  rotate_left
  · (intro w hSw; (try dsimp only at hSw); go_simp; (try with_reducible rfl))
  refine rtk 1 (oi := ⟨some 27, .fieldAddr 33 (.tmp 3) 0, _, _, _, none⟩) (v := ?_) rfl ?_ hH ?_
  rotate_left
  · (intro w hSw; (try dsimp only at hSw); go_simp; (try with_reducible rfl))
  refine rtk 2 (oi := ⟨some 28, .load 21 (.tmp 27), _, _, _, none⟩) (v := ?_) rfl ?_ hH ?_
  rotate_left
  · (intro w hSw; (try dsimp only at hSw); go_simp; (try with_reducible rfl))
  refine rtk 3 (oi := ⟨some 29, .move (.tmp 10), _, _, _, none⟩) (v := ?_) rfl ?_ hH ?_
  rotate_left
  · (intro w hSw; (try dsimp only at hSw); go_simp; (try with_reducible rfl))
  try simp only [Act.put, List.setIfInBounds_toArray, List.set_cons_zero, List.set_cons_succ]
  refine rtk 5 (oi := ⟨some 31, .move (.tmp 9), _, _, _, none⟩) (v := ?_) rfl ?_ hH ?_
  rotate_left
  · (intro w hSw; (try dsimp only at hSw); go_simp; (try with_reducible rfl))
  refine rtk 6 (oi := ⟨some 32, .fieldAddr 33 (.tmp 3) 1, _, _, _, none⟩) (v := ?_) rfl ?_ hH ?_
  rotate_left
  · (intro w hSw; (try dsimp only at hSw); go_simp; (try with_reducible rfl))
  refine rtk 7 (oi := ⟨some 33, .load 21 (.tmp 32), _, _, _, none⟩) (v := ?_) rfl ?_ hH ?_
  rotate_left
  · (intro w hSw; (try dsimp only at hSw); go_simp; (try with_reducible rfl))
  refine rtk 8 (oi := ⟨some 34, .move (.tmp 11), _, _, _, none⟩) (v := ?_) rfl ?_ hH ?_
  rotate_left
  · (intro w hSw; (try dsimp only at hSw); go_simp; (try with_reducible rfl))
  try simp only [Act.put, List.setIfInBounds_toArray, List.set_cons_zero, List.set_cons_succ]
  refine wpAnyH_ready (rs := [4]) (by kernel_rfl) (by simp) ?_
  refine AllReadyH.cons (o := ⟨some 30, .call { callee := .value (.tmp 26), args := #[.tmp 28, .tmp 29], argTypes := #[21, 2] }, _, _, _, none⟩) rfl (fun K hK => ?_) AllReadyH.nil
  go_simp
  (with_reducible refine (C3.out _ _ _ (by go_split_ands; assumption) (by go_split_ands; assumption)).mono ?_); rintro e v4_4 ⟨rfl, g⟩
  refine hK.out _ _ (by (try dsimp only); (go_split_ands; exact ⟨Kep.all g (by assumption), Kep.all g (by assumption), Kep.all g (by assumption), Kep.all g (by assumption), kep_some g (by assumption), kep_some g (by assumption), kep_froz g (by assumption) (by assumption), kep_froz g (by assumption) (by assumption), kep_next (by assumption) g⟩)) (fun hH2 => ?_)
  clear hK K hH; have hH := hH2; clear hH2
  try simp only [Act.put, List.setIfInBounds_toArray, List.set_cons_zero, List.set_cons_succ]
  refine wpAnyH_ready (rs := [9]) (by kernel_rfl) (by simp) ?_
  refine AllReadyH.cons (o := ⟨some 35, .call { callee := .value (.tmp 31), args := #[.tmp 33, .tmp 34], argTypes := #[21, 2] }, _, _, _, none⟩) rfl (fun K hK => ?_) AllReadyH.nil
  go_simp
  (with_reducible refine (C4.out _ _ _ (by go_split_ands; assumption) (by go_split_ands; assumption)).mono ?_); rintro e v4_9 ⟨rfl, g⟩
  refine hK.out _ _ (by (try dsimp only); (go_split_ands; exact ⟨Kep.all g (by assumption), Kep.all g (by assumption), Kep.all g (by assumption), Kep.all g (by assumption), kep_some g (by assumption), kep_some g (by assumption), kep_froz g (by assumption) (by assumption), kep_froz g (by assumption) (by assumption), kep_next (by assumption) g⟩)) (fun hH2 => ?_)
  clear hK K hH; have hH := hH2; clear hH2
  refine rtk 10 (oi := ⟨some 36, .build 33 #[(0, .tmp 30), (1, .tmp 35)], _, _, _, none⟩) (v := ?_) rfl ?_ hH ?_
  rotate_left
  · (intro w hSw; (try dsimp only at hSw); go_simp; (try with_reducible rfl))
  try simp only [Act.put, List.setIfInBounds_toArray, List.set_cons_zero, List.set_cons_succ]
  obtain ⟨p0, p1, hn0, hd0, sr0, sr1, fr0, fr1, gg⟩ := id hH
  refine wpAnyH_ready (rs := [11]) (by kernel_rfl) (by simp) ?_
  refine AllReadyH.cons (o := ⟨none, .store 33 (.tmp 6) (.tmp 36), _, _, _, none⟩) rfl (fun K hK => ?_) AllReadyH.nil
  obtain ⟨qr0, eqr0⟩ := Option.isSome_iff_exists.1 sr0
  obtain ⟨qr1, eqr1⟩ := Option.isSome_iff_exists.1 sr1
  have br0 := eqr0
  have br1 := eqr1
  go_simp
  refine hK.out _ _ (by (try dsimp only); exact ⟨sset_far (sset_far (p0) (by first | (simp; done) | (simp; omega))) (by first | (simp; done) | (simp; omega)), sset_far (sset_far (p1) (by first | (simp; done) | (simp; omega))) (by first | (simp; done) | (simp; omega)), sset_far (sset_far (hn0) (by first | (simp; done) | (simp; omega))) (by first | (simp; done) | (simp; omega)), sset_far (sset_far (hd0) (by first | (simp; done) | (simp; omega))) (by first | (simp; done) | (simp; omega)), sset_some _ _ _ (sset_some _ _ _ (sr0)), sset_some _ _ _ (sset_some _ _ _ (sr1)), sset_froz (sset_froz (fr0)), sset_froz (sset_froz (fr1)), kep_set (kep_set (gg) (by first | (simp; done) | (simp; omega)) _) (by first | (simp; done) | (simp; omega)) _⟩) (fun hH2 => ?_)
  clear hK K hH p0 p1 hn0 hd0 sr0 sr1 fr0 fr1 gg eqr0 eqr1; have hH := hH2; clear hH2
  try simp only [Act.put, List.setIfInBounds_toArray, List.set_cons_zero, List.set_cons_succ]
  refine wpAnyH_done (by kernel_rfl) ?_ _
  refine NoPanic.normal ?_
  clear p0 p1 hn0 hd0 sr0 sr1 fr0 fr1 gg
  obtain ⟨p0, p1, hn0, hd0, sr0, sr1, fr0, fr1, gg⟩ := hH
  go_wp2_with fail
  exact bodyPost_ret (v := .agg #[.int .i32 x, .int .i32 y]) (by simp [results, Tryz.results97, go_sem, br0, br1]) rfl ⟨rfl, gg⟩
set_option maxRecDepth 100000 in
set_option maxHeartbeats 2000000 in
theorem pds {px py qx qy cx cy dx dy ux uy d n x y t : Int} (P : Pt px py qx qy cx cy dx dy ux uy d n x y t) (H : Rg px py qx qy cx cy) : PDs px py qx qy cx cy t := fun w => by
  have C1 := Lib.hid (pne P H)
  obtain ⟨i1, i2⟩ := P.ind H
  obtain ⟨b1, b2⟩ := P.box
  obtain ⟨h1, h2, h3, h4, h5, h6, h7, h8⟩ := H
  have C2 := Lib.hid (kdf (x := x - cx) (y := y - cy) h5 h6 (show I32 x by unfold I32; omega) (show I32 y by unfold I32; omega) rfl rfl)
  have C3 := Lib.hid (lsq2 i1 i2 P.ht)
  clear h1 h2 h3 h4 h5 h6 h7 h8 P i1 i2 b1 b2
  obtain ⟨dx1, hdx1⟩ : ∃ k, k = x - cx := ⟨_, rfl⟩
  obtain ⟨dy1, hdy1⟩ : ∃ k, k = y - cy := ⟨_, rfl⟩
  rw [← hdx1, ← hdy1] at C2 C3
  clear hdx1 hdy1
  go_enter Tryz.func130, Tryz.ntmps130
  go_wp2_with fail
  generalize hW : World.alloc (World.alloc (World.alloc w _) _) _ = W1
  have p0 : W1.cell? ⟨w.heap.size, 0, none⟩ = some (.int .i32 px) := by
    rw [← hW]
    (repeat (first | rw [World.cell?_drew] | rw [World.cell?_alloc_past _ _ _ (by first | (simp; done) | (simp; omega))])); rw [World.cell?_alloc_at _ _ _ _ (by simp)]; rfl
  have p1 : W1.cell? ⟨w.heap.size, 1, none⟩ = some (.int .i32 py) := by
    rw [← hW]
    (repeat (first | rw [World.cell?_drew] | rw [World.cell?_alloc_past _ _ _ (by first | (simp; done) | (simp; omega))])); rw [World.cell?_alloc_at _ _ _ _ (by simp)]; rfl
  have q0 : W1.cell? ⟨w.heap.size + 1, 0, none⟩ = some (.int .i32 qx) := by
    rw [← hW]
    (repeat (first | rw [World.cell?_drew] | rw [World.cell?_alloc_past _ _ _ (by first | (simp; done) | (simp; omega))])); rw [World.cell?_alloc_at _ _ _ _ (by simp)]; rfl
  have q1 : W1.cell? ⟨w.heap.size + 1, 1, none⟩ = some (.int .i32 qy) := by
    rw [← hW]
    (repeat (first | rw [World.cell?_drew] | rw [World.cell?_alloc_past _ _ _ (by first | (simp; done) | (simp; omega))])); rw [World.cell?_alloc_at _ _ _ _ (by simp)]; rfl
  have c0 : W1.cell? ⟨w.heap.size + 1 + 1, 0, none⟩ = some (.int .i32 cx) := by
    rw [← hW]
    (repeat (first | rw [World.cell?_drew] | rw [World.cell?_alloc_past _ _ _ (by first | (simp; done) | (simp; omega))])); rw [World.cell?_alloc_at _ _ _ _ (by simp)]; rfl
  have c1 : W1.cell? ⟨w.heap.size + 1 + 1, 1, none⟩ = some (.int .i32 cy) := by
    rw [← hW]
    (repeat (first | rw [World.cell?_drew] | rw [World.cell?_alloc_past _ _ _ (by first | (simp; done) | (simp; omega))])); rw [World.cell?_alloc_at _ _ _ _ (by simp)]; rfl
  have gg : Kep w.heap.size w W1 := by rw [← hW]; exact (kep_more (kep_more (kep_more (Kep.refl _ _) _) _) _)
  clear hW
  refine wp_region_noPanic ?_
  refine wp_region_held_drew (S := (fun w' => w'.cell? ⟨w.heap.size, 0, none⟩ = some (.int .i32 px) ∧ w'.cell? ⟨w.heap.size, 1, none⟩ = some (.int .i32 py) ∧ w'.cell? ⟨w.heap.size + 1, 0, none⟩ = some (.int .i32 qx) ∧ w'.cell? ⟨w.heap.size + 1, 1, none⟩ = some (.int .i32 qy) ∧ w'.cell? ⟨w.heap.size + 1 + 1, 0, none⟩ = some (.int .i32 cx) ∧ w'.cell? ⟨w.heap.size + 1 + 1, 1, none⟩ = some (.int .i32 cy) ∧ Kep w.heap.size w w')) (by kernel_rfl) (⟨by rw [World.cell?_drew]; exact p0, by rw [World.cell?_drew]; exact p1, by rw [World.cell?_drew]; exact q0, by rw [World.cell?_drew]; exact q1, by rw [World.cell?_drew]; exact c0, by rw [World.cell?_drew]; exact c1, kep_drew gg⟩) (fun hH => ?_)
  refine rtk 0 (oi := ⟨some 7, .load 33 (.tmp 5), _, _, _, none⟩) (v := ?_) rfl ?_ hH ?_
  rotate_left
  · (intro w hSw; (try dsimp only at hSw); go_simp; (try with_reducible rfl))
  refine rtk 1 (oi := ⟨some 8, .load 33 (.tmp 3), _, _, _, none⟩) (v := ?_) rfl ?_ hH ?_
  rotate_left
  · (intro w hSw; (try dsimp only at hSw); go_simp; (try with_reducible rfl))
  refine rtk 2 (oi := ⟨some 9, .load 33 (.tmp 4), _, _, _, none⟩) (v := ?_) rfl ?_ hH ?_
  rotate_left
  · (intro w hSw; (try dsimp only at hSw); go_simp; (try with_reducible rfl))
  refine rtk 3 (oi := ⟨some 10, .load 33 (.tmp 5), _, _, _, none⟩) (v := ?_) rfl ?_ hH ?_
  rotate_left
  · (intro w hSw; (try dsimp only at hSw); go_simp; (try with_reducible rfl))
  try simp only [Act.put, List.setIfInBounds_toArray, List.set_cons_zero, List.set_cons_succ]
  refine wpAnyH_ready (rs := [4]) (by kernel_rfl) (by simp) ?_
  refine AllReadyH.cons (o := ⟨some 11, .call { callee := .value (.func 97), args := #[.tmp 8, .tmp 9, .tmp 10], argTypes := #[33, 33, 33] }, _, _, _, none⟩) rfl (fun K hK => ?_) AllReadyH.nil
  go_simp
  (with_reducible refine (C1.out _).mono ?_); rintro e v1_4 ⟨rfl, g⟩
  refine hK.out _ _ (by (try dsimp only); (go_split_ands; exact ⟨Kep.all g (by assumption), Kep.all g (by assumption), Kep.all g (by assumption), Kep.all g (by assumption), Kep.all g (by assumption), Kep.all g (by assumption), kep_next (by assumption) g⟩)) (fun hH2 => ?_)
  clear hK K hH; have hH := hH2; clear hH2
  try simp only [Act.put, List.setIfInBounds_toArray, List.set_cons_zero, List.set_cons_succ]
  refine wpAnyH_ready (rs := [5]) (by kernel_rfl) (by simp) ?_
  refine AllReadyH.cons (o := ⟨some 12, .call { callee := .value (.func 74), args := #[.tmp 7, .tmp 11], argTypes := #[33, 33] }, _, _, _, none⟩) rfl (fun K hK => ?_) AllReadyH.nil
  go_simp
  (with_reducible refine (C2.out _).mono ?_); rintro e v1_5 ⟨rfl, g⟩
  refine hK.out _ _ (by (try dsimp only); (go_split_ands; exact ⟨Kep.all g (by assumption), Kep.all g (by assumption), Kep.all g (by assumption), Kep.all g (by assumption), Kep.all g (by assumption), Kep.all g (by assumption), kep_next (by assumption) g⟩)) (fun hH2 => ?_)
  clear hK K hH; have hH := hH2; clear hH2
  refine rtk 6 (oi := ⟨some 13, .extract (.tmp 12) 0, _, _, _, none⟩) (v := ?_) rfl ?_ hH ?_
  rotate_left
  · (intro w hSw; (try dsimp only at hSw); go_simp; (try with_reducible rfl))
  refine rtk 7 (oi := ⟨some 14, .extract (.tmp 12) 1, _, _, _, none⟩) (v := ?_) rfl ?_ hH ?_
  rotate_left
  · (intro w hSw; (try dsimp only at hSw); go_simp; (try with_reducible rfl))
  try simp only [Act.put, List.setIfInBounds_toArray, List.set_cons_zero, List.set_cons_succ]
  refine wpAnyH_ready (rs := [8]) (by kernel_rfl) (by simp) ?_
  refine AllReadyH.cons (o := ⟨some 15, .call { callee := .value (.func 76), args := #[.tmp 13, .tmp 14], argTypes := #[2, 2] }, _, _, _, none⟩) rfl (fun K hK => ?_) AllReadyH.nil
  go_simp
  (with_reducible refine (C3.out _).mono ?_); rintro e v1_8 ⟨rfl, rfl⟩
  refine hK.out _ _ hH (fun hH2 => ?_)
  clear hK K hH; have hH := hH2; clear hH2
  refine rtk 9 (oi := ⟨some 6, .assign (.tmp 15), _, _, _, none⟩) (v := ?_) rfl ?_ hH ?_
  rotate_left
  · (intro w hSw; (try dsimp only at hSw); go_simp; (try with_reducible rfl))
  try simp only [Act.put, List.setIfInBounds_toArray, List.set_cons_zero, List.set_cons_succ]
  refine wpAnyH_done (by kernel_rfl) ?_ _
  refine NoPanic.normal ?_
  clear p0 p1 q0 q1 c0 c1 gg
  obtain ⟨p0, p1, q0, q1, c0, c1, gg⟩ := hH
  go_wp2_with fail
  go_ret
  exact ⟨rfl, gg⟩
end Go.Proofs.YtangalkbjochjaaGreatDoor
end

section
/-
  Package segment: what the laws ask of the program.
-/
namespace Go.Proofs.YtangalkbjochjaaGreatDoor
open Go.RowKit Go.Lib

abbrev SCh (px py qx qy mx my nx ny a b c d : Int) : Prop := ∀ w, Calls Tryz.prog 75 #[.agg #[.int .i32 px, .int .i32 py], .agg #[.int .i32 qx, .int .i32 qy], .agg #[.int .i32 mx, .int .i32 my], .agg #[.int .i32 nx, .int .i32 ny]] w fun e w' => e = .returned (.tuple #[.agg #[.int .i32 a, .int .i32 b], .agg #[.int .i32 c, .int .i32 d]]) ∧ Kep w.heap.size w w'
theorem sg_parts {px py qx qy mx my nx ny : Int} (h : sgB px py qx qy mx my nx ny = true) : Rg px py qx qy mx my ∧ Rg mx my nx ny px py := sg_of h
theorem sg_mk {px py qx qy mx my nx ny : Int} (h1 : Rg px py qx qy mx my) (h2 : Rg mx my nx ny px py) : sgB px py qx qy mx my nx ny = true := by
  unfold sgB
  rw [Bool.and_eq_true]
  exact ⟨rgB_iff.2 h1, rgB_iff.2 h2⟩
theorem sg_swap {px py qx qy mx my nx ny : Int} (h : sgB px py qx qy mx my nx ny = true) : sgB mx my nx ny px py qx qy = true := by
  obtain ⟨h1, h2⟩ := sg_parts h
  exact sg_mk h2 h1
theorem sg_pts {px py qx qy mx my nx ny : Int} (h : sgB px py qx qy mx my nx ny = true) : sgB px py px py mx my mx my = true := by
  obtain ⟨⟨a1, a2, a3, a4, a5, a6, a7, a8⟩, h2⟩ := sg_parts h
  exact sg_mk ⟨a1, a2, a1, a2, a5, a6, by unfold Din; omega, by unfold Din; omega⟩ ⟨a5, a6, a5, a6, a1, a2, by unfold Din; omega, by unfold Din; omega⟩
theorem sg_same {px py qx qy mx my nx ny : Int} (h : sgB px py qx qy mx my nx ny = true) : sgB px py qx qy px py qx qy = true := by
  obtain ⟨⟨a1, a2, a3, a4, a5, a6, a7, a8⟩, h2⟩ := sg_parts h
  exact sg_mk ⟨a1, a2, a3, a4, a1, a2, a7, a8⟩ ⟨a1, a2, a3, a4, a1, a2, a7, a8⟩
end Go.Proofs.YtangalkbjochjaaGreatDoor
end
