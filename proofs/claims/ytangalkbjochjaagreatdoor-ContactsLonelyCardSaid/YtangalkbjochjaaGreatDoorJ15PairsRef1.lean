import Derived.Test.YtangalkbjochjaaGreatDoorJ14ViewMath
import Derived.Test.YtangalkbjochjaaGreatDoorJ03Fac
import Derived.Test.YtangalkbjochjaaGreatDoorJ05StorePut
import Derived.Deep.DeepCutAuto
import Derived.Deep.QuietTactic
import Derived.BigQuiet

/-! J15PairsRef1: PairsRef1, PairsRef2, PairsCon. -/

section
/-
  Package pairs: the reference's Find; the boxes of valid bodies.
-/
namespace Go.Proofs.YtangalkbjochjaaGreatDoor
open Go.RowKit Go.Lib

/-- The reference's box of a body. -/
abbrev ROk (x : Bd) (a b c d : Int) : Prop := ∀ w, Calls Tryz.prog 30 #[.agg #[.int .u32 x.k, .int .i32 x.r, .int .i32 x.ax, .int .i32 x.ay, .int .i32 x.m, .int .i32 x.o, .int .i32 x.px, .int .i32 x.py, .int .i32 x.vx, .int .i32 x.vy]] w fun e w' => e = .returned (.agg #[.int .i32 a, .int .i32 b, .int .i32 c, .int .i32 d]) ∧ Kep w.heap.size w w'
abbrev RVk (xa ya za ta xb yb zb tb : Int) (z : Bool) : Prop := ∀ w, Calls Tryz.prog 29 #[.agg #[.int .i32 xa, .int .i32 ya, .int .i32 za, .int .i32 ta], .agg #[.int .i32 xb, .int .i32 yb, .int .i32 zb, .int .i32 tb]] w fun e w' => e = .returned (.bool z) ∧ Kep w.heap.size w w'
/-- The edges of a body's box. -/
structure EdB (x : Bd) (a b c d : Int) : Prop where
  a : a = x.px - exB x
  b : b = x.py - eyB x
  c : c = x.px + exB x
  d : d = x.py + eyB x
theorem rok {x : Bd} (h : chkB x = 0) : ∃ a b c d, Hid (ROk x a b c d) ∧ EdB x a b c d := by
  obtain ⟨h1, h2, h3, h4⟩ := ext_B h
  obtain ⟨h5, ⟨h6, h7⟩, h8⟩ := chk_lim h
  refine ⟨_, _, _, _, Lib.hid (fun w => kep_calls (rof x.k x.r x.ax x.ay x.m x.o x.px x.py x.vx x.vy (max x.ax (-x.ax)) (max x.ay (-x.ay)) (exB x) (eyB x) _ _ _ _ (Lib.hid (rab (by omega) (by omega) rfl)) (Lib.hid (rab (by omega) (by omega) rfl)) ?_ ?_ ?_ ?_ ?_ ?_ w)), ⟨rfl, rfl, rfl, rfl⟩⟩
  · unfold exB at *; unfold wrap32; omega
  · unfold eyB at *; unfold wrap32; omega
  · unfold wrap32; omega
  · unfold wrap32; omega
  · unfold wrap32; omega
  · unfold wrap32; omega
theorem rvk {x : Bd} {a b c d xb yb zb tb : Int} (hx : EdB x a b c d) {z : Bool} (h : ovA x xb yb zb tb = z) : Hid (RVk a b c d xb yb zb tb z) := Lib.hid (fun w => kep_calls (rov a b c d xb yb zb tb z (by rw [hx.a, hx.b, hx.c, hx.d]; exact h) w))
theorem rvp {x y : Bd} {a b c d xb yb zb tb : Int} (hx : EdB x a b c d) (hy : EdB y xb yb zb tb) {z : Bool} (h : ovP x y = z) : Hid (RVk a b c d xb yb zb tb z) := rvk hx (by rw [hy.a, hy.b, hy.c, hy.d]; exact h)
end Go.Proofs.YtangalkbjochjaaGreatDoor
end

section
/-
  Package pairs: the reference's Within, Lonely, View.
-/
namespace Go.Proofs.YtangalkbjochjaaGreatDoor
open Go.RowKit Go.Lib

theorem with_at {L : List Bd} {k : Nat} {x : Bd} {a b c d : Int} (h : L[k]? = some x) : withL (L.drop k) a b c d = if ovA x a b c d = true then x.k :: withL (L.drop (k + 1)) a b c d else withL (L.drop (k + 1)) a b c d := by
  rw [drop_at h]
  unfold withL
  by_cases q : ovA x a b c d = true
  · rw [if_pos q, List.filter_cons_of_pos (p := fun x => ovA x a b c d) q, List.map_cons]
  · rw [if_neg q, List.filter_cons_of_neg (p := fun x => ovA x a b c d) q]
theorem with_len (L : List Bd) (a b c d : Int) : (withL L a b c d).length ≤ L.length := by
  unfold withL
  rw [List.length_map]
  exact List.length_filter_le _ _
/-- A body is alone among L. -/
def lonT (x y : Bd) : Bool := decide (y.k = x.k) || !ovP x y
theorem lon_all {L : List Bd} {x : Bd} {key : Int} (h : look L key = some x) : lonB L key = L.all (lonT x) := by
  have e := (look_some h).2
  unfold lonB
  rw [h]
  subst e
  rfl
theorem all_take {t : Bd → Bool} {L : List Bd} {k : Nat} {y : Bd} (h : L[k]? = some y) : (L.take (k + 1)).all t = ((L.take k).all t && t y) := by
  rw [List.take_add_one, h]
  simp
abbrev RPl (L : List Bd) (key : Int) (z : Bool) : Prop := ∀ v w, Lst w v L → Calls Tryz.prog 19 #[v, .int .u32 key] w fun e w' => e = .returned (.bool z) ∧ Kep w.heap.size w w'
set_option maxRecDepth 100000 in
set_option maxHeartbeats 2000000 in
theorem rpl_none (L : List Bd) (key : Int) (hm : L.length ≤ 1000000) (hq : look L key = none) : RPl L key false := fun v w h => by
  obtain ⟨base, cap, rfl⟩ := h.shape
  have HL0 := Lib.hid h
  have FD := Lib.hid (fun w h => find_any (.slice base L.length cap) L key w h (by omega))
  rw [(place_eq L key 0).1 hq] at FD
  clear h hq
  go_enter Tryz.func19, Tryz.ntmps19
  go_wp2_with (first
    | ((with_reducible refine (FD.out _ HL0.out).mono ?_); rintro e w1 ⟨rfl, rfl⟩))
  go_ret
  exact ⟨rfl, Kep.refl _ _⟩
set_option maxRecDepth 100000 in
set_option maxHeartbeats 8000000 in
theorem rpl_some (L : List Bd) (key : Int) (x : Bd) (hm : L.length ≤ 1000000) (HV : Hid (∀ x ∈ L, chkB x = 0)) (hA : Asc L) (hq : look L key = some x) : RPl L key (L.all (lonT x)) := fun v w h => by
  obtain ⟨base, cap, rfl⟩ := h.shape
  have HC := Lib.hid (fun (k : Nat) (x : Bd) (hx : L[k]? = some x) => h.at_ hx)
  have HL0 := Lib.hid h
  have FD := Lib.hid (fun w h => find_any (.slice base L.length cap) L key w h (by omega))
  obtain ⟨j, hj, hx⟩ := (place_eq L key 0).2 x hq
  rw [hj, Nat.zero_add] at FD
  have hjl : j < L.length := (List.getElem?_eq_some_iff.1 hx).1
  have hAL := Lib.hid (fun (k : Nat) (y : Bd) (hy : L[k]? = some y) (c : k ≠ j) => (show y.k ≠ x.k by
    rcases Nat.lt_or_gt_of_ne c with c | c
    · have := asc_lt hA hy hx c; omega
    · have := asc_lt hA hx hy c; omega))
  obtain ⟨gl, off, rfl, qx⟩ := HC.out j x hx
  have HQX := Lib.hid qx
  obtain ⟨xa, ya, za, ta, RX, hex⟩ := rok (HV.out x (List.mem_of_getElem? hx))
  have HEX := Lib.hid hex
  have HXJ := Lib.hid hx
  clear h hq hj hx qx hex
  generalize hl : L.length = len at *
  have HN := Lib.hid hl
  clear hl
  go_enter Tryz.func19, Tryz.ntmps19
  go_wp2_with (first
    | ((with_reducible refine (FD.out _ HL0.out).mono ?_); rintro e w1 ⟨rfl, rfl⟩))
  go_loopw [6] (fun i wr => ∃ k : Nat, k ≤ len ∧ i = .int .i64 k ∧ Hid ((L.take k).all (lonT x) = true ∧ Kep w.heap.size w wr)) (fun i _ => len - (RowKit.intOf i).toNat)
  case atStart => exact ⟨0, by omega, rfl, Lib.hid ⟨by simp, Kep.refl _ _⟩⟩
  case round =>
    obtain ⟨k, hk, rfl, HP⟩ := hrel
    have gg := HP.out.2
    by_cases hlt : k < len
    · by_cases hkj : k = j
      · subst hkj
        have HT : Hid ((L.take (k + 1)).all (lonT x) = true) := Lib.hid (by rw [all_take HXJ.out, HP.out.1]; simp [lonT])
        have qn : ((k : Int) != (k : Int)) = false := by simp
        clear HP
        go_wp2_with fail
        refine wp_region_noPanic ?_
        refine wp_region_held_drew (S := (fun w' => Kep w.heap.size w w')) (by kernel_rfl) (kep_drew gg) (fun hH => ?_)
        refine rtk 0 (oi := ⟨some 18, .move (.tmp 6), _, _, _, none⟩) (v := ?_) rfl ?_ hH ?_
        rotate_left
        · (intro w hSw; (try dsimp only at hSw); go_simp; (try with_reducible rfl))
        refine rtk 1 (oi := ⟨some 19, .move (.tmp 5), _, _, _, none⟩) (v := ?_) rfl ?_ hH ?_
        rotate_left
        · (intro w hSw; (try dsimp only at hSw); go_simp; (try with_reducible rfl))
        refine rtk 2 (oi := ⟨some 20, .binOp .neq 3 (.tmp 18) (.tmp 19) 3, _, _, _, none⟩) (v := ?_) rfl ?_ hH ?_
        rotate_left
        · (intro w hSw; (try dsimp only at hSw); go_simp; (try with_reducible rfl))
        refine rtk 3 (oi := ⟨some 21, .move (.tmp 20), _, _, _, none⟩) (v := ?_) rfl ?_ hH ?_
        rotate_left
        · (intro w hSw; (try dsimp only at hSw); go_simp; (try with_reducible rfl))
        try simp only [Act.put, List.setIfInBounds_toArray, List.set_cons_zero, List.set_cons_succ]
        refine rtu 4 (oi := ⟨some 22, .move (.tmp 0), _, _, _, some (3, true)⟩) rfl hH ?_
        try simp only [Act.put, List.setIfInBounds_toArray, List.set_cons_zero, List.set_cons_succ]
        refine rtu 5 (oi := ⟨some 23, .move (.tmp 5), _, _, _, some (3, true)⟩) rfl hH ?_
        try simp only [Act.put, List.setIfInBounds_toArray, List.set_cons_zero, List.set_cons_succ]
        refine rtu 6 (oi := ⟨some 24, .indexAddr 22 (.tmp 22) (.tmp 23), _, _, _, some (3, true)⟩) rfl hH ?_
        try simp only [Act.put, List.setIfInBounds_toArray, List.set_cons_zero, List.set_cons_succ]
        refine rtu 7 (oi := ⟨some 25, .load 46 (.tmp 24), _, _, _, some (3, true)⟩) rfl hH ?_
        try simp only [Act.put, List.setIfInBounds_toArray, List.set_cons_zero, List.set_cons_succ]
        refine rtu 8 (oi := ⟨some 26, .call { callee := .value (.func 30), args := #[.tmp 25], argTypes := #[46] }, _, _, _, some (3, true)⟩) rfl hH ?_
        try simp only [Act.put, List.setIfInBounds_toArray, List.set_cons_zero, List.set_cons_succ]
        refine rtu 9 (oi := ⟨some 27, .move (.tmp 0), _, _, _, some (3, true)⟩) rfl hH ?_
        try simp only [Act.put, List.setIfInBounds_toArray, List.set_cons_zero, List.set_cons_succ]
        refine rtu 10 (oi := ⟨some 28, .move (.tmp 6), _, _, _, some (3, true)⟩) rfl hH ?_
        try simp only [Act.put, List.setIfInBounds_toArray, List.set_cons_zero, List.set_cons_succ]
        refine rtu 11 (oi := ⟨some 29, .indexAddr 22 (.tmp 27) (.tmp 28), _, _, _, some (3, true)⟩) rfl hH ?_
        try simp only [Act.put, List.setIfInBounds_toArray, List.set_cons_zero, List.set_cons_succ]
        refine rtu 12 (oi := ⟨some 30, .load 46 (.tmp 29), _, _, _, some (3, true)⟩) rfl hH ?_
        try simp only [Act.put, List.setIfInBounds_toArray, List.set_cons_zero, List.set_cons_succ]
        refine rtu 13 (oi := ⟨some 31, .call { callee := .value (.func 30), args := #[.tmp 30], argTypes := #[46] }, _, _, _, some (3, true)⟩) rfl hH ?_
        try simp only [Act.put, List.setIfInBounds_toArray, List.set_cons_zero, List.set_cons_succ]
        refine rtu 14 (oi := ⟨some 32, .call { callee := .value (.func 29), args := #[.tmp 26, .tmp 31], argTypes := #[71, 71] }, _, _, _, some (3, true)⟩) rfl hH ?_
        refine rtk 15 (oi := ⟨some 33, .pick (.tmp 21) (.tmp 32) (.const (Value.bool false)), _, _, _, none⟩) (v := ?_) rfl ?_ hH ?_
        rotate_left
        · (intro w hSw; (try dsimp only at hSw); go_simp; (try with_reducible rfl))
        try simp only [Act.put, List.setIfInBounds_toArray, List.set_cons_zero, List.set_cons_succ]
        refine wpAnyH_done (by kernel_rfl) ?_ _
        refine NoPanic.normal ?_
        clear  gg
        have gg := hH
        go_wp2_with fail
        go_roundw
        case rel => exact ⟨k + 1, by omega, by go_num, Lib.hid ⟨HT.out, gg⟩⟩
        case measure => simp [RowKit.intOf]; omega
      · have qn : ((k : Int) != (j : Int)) = true := bne_iff_ne.2 (by omega)
        have hb : L[k]? = some (L[k]'(by rw [HN.out]; exact hlt)) := List.getElem?_eq_getElem _
        generalize L[k]'(by rw [HN.out]; exact hlt) = y at hb
        obtain ⟨_, _, e0, qy⟩ := HC.out k y hb
        injection e0 with e0
        injection e0 with e1 e2
        subst e1 e2
        have HQY := Lib.hid qy
        obtain ⟨xb, yb, zb, tb, RY, hey⟩ := rok (HV.out y (List.mem_of_getElem? hb))
        obtain ⟨z, hz⟩ : ∃ z, ovP x y = z := ⟨_, rfl⟩
        have RV := rvp HEX.out hey hz
        have HNE := hAL.out k y hb hkj
        have HLT : Hid (lonT x y = !z) := Lib.hid (by unfold lonT; rw [decide_eq_false HNE, hz]; rfl)
        have HT := HP
        have HB := Lib.hid hb
        clear hb qy hey hz HP HNE hkj
        have s0 : wr.cell? ⟨gl, off + j * 10, none⟩ = some (.int .u32 x.k) := gg.all (HQX.out 0 (by decide))
        have s1 : wr.cell? ⟨gl, off + j * 10 + 1, none⟩ = some (.int .i32 x.r) := gg.all (HQX.out 1 (by decide))
        have s2 : wr.cell? ⟨gl, off + j * 10 + 2, none⟩ = some (.int .i32 x.ax) := gg.all (HQX.out 2 (by decide))
        have s3 : wr.cell? ⟨gl, off + j * 10 + 3, none⟩ = some (.int .i32 x.ay) := gg.all (HQX.out 3 (by decide))
        have s4 : wr.cell? ⟨gl, off + j * 10 + 4, none⟩ = some (.int .i32 x.m) := gg.all (HQX.out 4 (by decide))
        have s5 : wr.cell? ⟨gl, off + j * 10 + 5, none⟩ = some (.int .i32 x.o) := gg.all (HQX.out 5 (by decide))
        have s6 : wr.cell? ⟨gl, off + j * 10 + 6, none⟩ = some (.int .i32 x.px) := gg.all (HQX.out 6 (by decide))
        have s7 : wr.cell? ⟨gl, off + j * 10 + 7, none⟩ = some (.int .i32 x.py) := gg.all (HQX.out 7 (by decide))
        have s8 : wr.cell? ⟨gl, off + j * 10 + 8, none⟩ = some (.int .i32 x.vx) := gg.all (HQX.out 8 (by decide))
        have s9 : wr.cell? ⟨gl, off + j * 10 + 9, none⟩ = some (.int .i32 x.vy) := gg.all (HQX.out 9 (by decide))
        have t0 : wr.cell? ⟨gl, off + k * 10, none⟩ = some (.int .u32 y.k) := gg.all (HQY.out 0 (by decide))
        have t1 : wr.cell? ⟨gl, off + k * 10 + 1, none⟩ = some (.int .i32 y.r) := gg.all (HQY.out 1 (by decide))
        have t2 : wr.cell? ⟨gl, off + k * 10 + 2, none⟩ = some (.int .i32 y.ax) := gg.all (HQY.out 2 (by decide))
        have t3 : wr.cell? ⟨gl, off + k * 10 + 3, none⟩ = some (.int .i32 y.ay) := gg.all (HQY.out 3 (by decide))
        have t4 : wr.cell? ⟨gl, off + k * 10 + 4, none⟩ = some (.int .i32 y.m) := gg.all (HQY.out 4 (by decide))
        have t5 : wr.cell? ⟨gl, off + k * 10 + 5, none⟩ = some (.int .i32 y.o) := gg.all (HQY.out 5 (by decide))
        have t6 : wr.cell? ⟨gl, off + k * 10 + 6, none⟩ = some (.int .i32 y.px) := gg.all (HQY.out 6 (by decide))
        have t7 : wr.cell? ⟨gl, off + k * 10 + 7, none⟩ = some (.int .i32 y.py) := gg.all (HQY.out 7 (by decide))
        have t8 : wr.cell? ⟨gl, off + k * 10 + 8, none⟩ = some (.int .i32 y.vx) := gg.all (HQY.out 8 (by decide))
        have t9 : wr.cell? ⟨gl, off + k * 10 + 9, none⟩ = some (.int .i32 y.vy) := gg.all (HQY.out 9 (by decide))
        go_wp2_with fail
        refine wp_region_noPanic ?_
        refine wp_region_held_drew (S := (fun w' => w'.cell? ⟨gl, off + j * 10, none⟩ = some (.int .u32 x.k) ∧ w'.cell? ⟨gl, off + j * 10 + 1, none⟩ = some (.int .i32 x.r) ∧ w'.cell? ⟨gl, off + j * 10 + 2, none⟩ = some (.int .i32 x.ax) ∧ w'.cell? ⟨gl, off + j * 10 + 3, none⟩ = some (.int .i32 x.ay) ∧ w'.cell? ⟨gl, off + j * 10 + 4, none⟩ = some (.int .i32 x.m) ∧ w'.cell? ⟨gl, off + j * 10 + 5, none⟩ = some (.int .i32 x.o) ∧ w'.cell? ⟨gl, off + j * 10 + 6, none⟩ = some (.int .i32 x.px) ∧ w'.cell? ⟨gl, off + j * 10 + 7, none⟩ = some (.int .i32 x.py) ∧ w'.cell? ⟨gl, off + j * 10 + 8, none⟩ = some (.int .i32 x.vx) ∧ w'.cell? ⟨gl, off + j * 10 + 9, none⟩ = some (.int .i32 x.vy) ∧ w'.cell? ⟨gl, off + k * 10, none⟩ = some (.int .u32 y.k) ∧ w'.cell? ⟨gl, off + k * 10 + 1, none⟩ = some (.int .i32 y.r) ∧ w'.cell? ⟨gl, off + k * 10 + 2, none⟩ = some (.int .i32 y.ax) ∧ w'.cell? ⟨gl, off + k * 10 + 3, none⟩ = some (.int .i32 y.ay) ∧ w'.cell? ⟨gl, off + k * 10 + 4, none⟩ = some (.int .i32 y.m) ∧ w'.cell? ⟨gl, off + k * 10 + 5, none⟩ = some (.int .i32 y.o) ∧ w'.cell? ⟨gl, off + k * 10 + 6, none⟩ = some (.int .i32 y.px) ∧ w'.cell? ⟨gl, off + k * 10 + 7, none⟩ = some (.int .i32 y.py) ∧ w'.cell? ⟨gl, off + k * 10 + 8, none⟩ = some (.int .i32 y.vx) ∧ w'.cell? ⟨gl, off + k * 10 + 9, none⟩ = some (.int .i32 y.vy) ∧ Kep w.heap.size w w')) (by kernel_rfl) (⟨by rw [World.cell?_drew]; exact s0, by rw [World.cell?_drew]; exact s1, by rw [World.cell?_drew]; exact s2, by rw [World.cell?_drew]; exact s3, by rw [World.cell?_drew]; exact s4, by rw [World.cell?_drew]; exact s5, by rw [World.cell?_drew]; exact s6, by rw [World.cell?_drew]; exact s7, by rw [World.cell?_drew]; exact s8, by rw [World.cell?_drew]; exact s9, by rw [World.cell?_drew]; exact t0, by rw [World.cell?_drew]; exact t1, by rw [World.cell?_drew]; exact t2, by rw [World.cell?_drew]; exact t3, by rw [World.cell?_drew]; exact t4, by rw [World.cell?_drew]; exact t5, by rw [World.cell?_drew]; exact t6, by rw [World.cell?_drew]; exact t7, by rw [World.cell?_drew]; exact t8, by rw [World.cell?_drew]; exact t9, kep_drew gg⟩) (fun hH => ?_)
        refine rtk 0 (oi := ⟨some 18, .move (.tmp 6), _, _, _, none⟩) (v := ?_) rfl ?_ hH ?_
        rotate_left
        · (intro w hSw; (try dsimp only at hSw); go_simp; (try with_reducible rfl))
        refine rtk 1 (oi := ⟨some 19, .move (.tmp 5), _, _, _, none⟩) (v := ?_) rfl ?_ hH ?_
        rotate_left
        · (intro w hSw; (try dsimp only at hSw); go_simp; (try with_reducible rfl))
        refine rtk 2 (oi := ⟨some 20, .binOp .neq 3 (.tmp 18) (.tmp 19) 3, _, _, _, none⟩) (v := ?_) rfl ?_ hH ?_
        rotate_left
        · (intro w hSw; (try dsimp only at hSw); go_simp; (try with_reducible rfl))
        refine rtk 3 (oi := ⟨some 21, .move (.tmp 20), _, _, _, none⟩) (v := ?_) rfl ?_ hH ?_
        rotate_left
        · (intro w hSw; (try dsimp only at hSw); go_simp; (try with_reducible rfl))
        try simp only [Act.put, List.setIfInBounds_toArray, List.set_cons_zero, List.set_cons_succ]
        refine rtk 4 (oi := ⟨some 22, .move (.tmp 0), _, _, _, some (3, true)⟩) (v := ?_) rfl ?_ hH ?_
        rotate_left
        · (intro w hSw; (try dsimp only at hSw); go_simp; (try with_reducible rfl))
        try simp only [Act.put, List.setIfInBounds_toArray, List.set_cons_zero, List.set_cons_succ]
        refine rtk 5 (oi := ⟨some 23, .move (.tmp 5), _, _, _, some (3, true)⟩) (v := ?_) rfl ?_ hH ?_
        rotate_left
        · (intro w hSw; (try dsimp only at hSw); go_simp; (try with_reducible rfl))
        try simp only [Act.put, List.setIfInBounds_toArray, List.set_cons_zero, List.set_cons_succ]
        refine rtk 6 (oi := ⟨some 24, .indexAddr 22 (.tmp 22) (.tmp 23), _, _, _, some (3, true)⟩) (v := ?_) rfl ?_ hH ?_
        rotate_left
        · (intro w hSw; (try dsimp only at hSw); go_simp; (try with_reducible rfl))
        try simp only [Act.put, List.setIfInBounds_toArray, List.set_cons_zero, List.set_cons_succ]
        refine rtk 7 (oi := ⟨some 25, .load 46 (.tmp 24), _, _, _, some (3, true)⟩) (v := ?_) rfl ?_ hH ?_
        rotate_left
        · (intro w hSw; (try dsimp only at hSw); go_simp; (try with_reducible rfl))
        try simp only [Act.put, List.setIfInBounds_toArray, List.set_cons_zero, List.set_cons_succ]
        refine rtk 9 (oi := ⟨some 27, .move (.tmp 0), _, _, _, some (3, true)⟩) (v := ?_) rfl ?_ hH ?_
        rotate_left
        · (intro w hSw; (try dsimp only at hSw); go_simp; (try with_reducible rfl))
        try simp only [Act.put, List.setIfInBounds_toArray, List.set_cons_zero, List.set_cons_succ]
        refine rtk 10 (oi := ⟨some 28, .move (.tmp 6), _, _, _, some (3, true)⟩) (v := ?_) rfl ?_ hH ?_
        rotate_left
        · (intro w hSw; (try dsimp only at hSw); go_simp; (try with_reducible rfl))
        try simp only [Act.put, List.setIfInBounds_toArray, List.set_cons_zero, List.set_cons_succ]
        refine rtk 11 (oi := ⟨some 29, .indexAddr 22 (.tmp 27) (.tmp 28), _, _, _, some (3, true)⟩) (v := ?_) rfl ?_ hH ?_
        rotate_left
        · (intro w hSw; (try dsimp only at hSw); go_simp; (try with_reducible rfl))
        try simp only [Act.put, List.setIfInBounds_toArray, List.set_cons_zero, List.set_cons_succ]
        refine rtk 12 (oi := ⟨some 30, .load 46 (.tmp 29), _, _, _, some (3, true)⟩) (v := ?_) rfl ?_ hH ?_
        rotate_left
        · (intro w hSw; (try dsimp only at hSw); go_simp; (try with_reducible rfl))
        try simp only [Act.put, List.setIfInBounds_toArray, List.set_cons_zero, List.set_cons_succ]
        refine wpAnyH_ready (rs := [8]) (by kernel_rfl) (by simp) ?_
        refine AllReadyH.cons (o := ⟨some 26, .call { callee := .value (.func 30), args := #[.tmp 25], argTypes := #[46] }, _, _, _, some (3, true)⟩) rfl (fun K hK => ?_) AllReadyH.nil
        go_simp
        (with_reducible refine (RX.out _).mono ?_); rintro e v7_8 ⟨rfl, g⟩
        refine hK.out _ _ (by (try dsimp only); (go_split_ands; exact ⟨Kep.all g (by assumption), Kep.all g (by assumption), Kep.all g (by assumption), Kep.all g (by assumption), Kep.all g (by assumption), Kep.all g (by assumption), Kep.all g (by assumption), Kep.all g (by assumption), Kep.all g (by assumption), Kep.all g (by assumption), Kep.all g (by assumption), Kep.all g (by assumption), Kep.all g (by assumption), Kep.all g (by assumption), Kep.all g (by assumption), Kep.all g (by assumption), Kep.all g (by assumption), Kep.all g (by assumption), Kep.all g (by assumption), Kep.all g (by assumption), kep_next (by assumption) g⟩)) (fun hH2 => ?_)
        clear hK K hH; have hH := hH2; clear hH2
        try simp only [Act.put, List.setIfInBounds_toArray, List.set_cons_zero, List.set_cons_succ]
        refine wpAnyH_ready (rs := [13]) (by kernel_rfl) (by simp) ?_
        refine AllReadyH.cons (o := ⟨some 31, .call { callee := .value (.func 30), args := #[.tmp 30], argTypes := #[46] }, _, _, _, some (3, true)⟩) rfl (fun K hK => ?_) AllReadyH.nil
        go_simp
        (with_reducible refine (RY.out _).mono ?_); rintro e v7_13 ⟨rfl, g⟩
        refine hK.out _ _ (by (try dsimp only); (go_split_ands; exact ⟨Kep.all g (by assumption), Kep.all g (by assumption), Kep.all g (by assumption), Kep.all g (by assumption), Kep.all g (by assumption), Kep.all g (by assumption), Kep.all g (by assumption), Kep.all g (by assumption), Kep.all g (by assumption), Kep.all g (by assumption), Kep.all g (by assumption), Kep.all g (by assumption), Kep.all g (by assumption), Kep.all g (by assumption), Kep.all g (by assumption), Kep.all g (by assumption), Kep.all g (by assumption), Kep.all g (by assumption), Kep.all g (by assumption), Kep.all g (by assumption), kep_next (by assumption) g⟩)) (fun hH2 => ?_)
        clear hK K hH; have hH := hH2; clear hH2
        try simp only [Act.put, List.setIfInBounds_toArray, List.set_cons_zero, List.set_cons_succ]
        refine wpAnyH_ready (rs := [14]) (by kernel_rfl) (by simp) ?_
        refine AllReadyH.cons (o := ⟨some 32, .call { callee := .value (.func 29), args := #[.tmp 26, .tmp 31], argTypes := #[71, 71] }, _, _, _, some (3, true)⟩) rfl (fun K hK => ?_) AllReadyH.nil
        go_simp
        (with_reducible refine (RV.out _).mono ?_); rintro e v7_14 ⟨rfl, g⟩
        refine hK.out _ _ (by (try dsimp only); (go_split_ands; exact ⟨Kep.all g (by assumption), Kep.all g (by assumption), Kep.all g (by assumption), Kep.all g (by assumption), Kep.all g (by assumption), Kep.all g (by assumption), Kep.all g (by assumption), Kep.all g (by assumption), Kep.all g (by assumption), Kep.all g (by assumption), Kep.all g (by assumption), Kep.all g (by assumption), Kep.all g (by assumption), Kep.all g (by assumption), Kep.all g (by assumption), Kep.all g (by assumption), Kep.all g (by assumption), Kep.all g (by assumption), Kep.all g (by assumption), Kep.all g (by assumption), kep_next (by assumption) g⟩)) (fun hH2 => ?_)
        clear hK K hH; have hH := hH2; clear hH2
        refine rtk 15 (oi := ⟨some 33, .pick (.tmp 21) (.tmp 32) (.const (Value.bool false)), _, _, _, none⟩) (v := ?_) rfl ?_ hH ?_
        rotate_left
        · (intro w hSw; (try dsimp only at hSw); go_simp; (try with_reducible rfl))
        try simp only [Act.put, List.setIfInBounds_toArray, List.set_cons_zero, List.set_cons_succ]
        refine wpAnyH_done (by kernel_rfl) ?_ _
        refine NoPanic.normal ?_
        clear s0 s1 s2 s3 s4 s5 s6 s7 s8 s9 t0 t1 t2 t3 t4 t5 t6 t7 t8 t9 gg
        obtain ⟨s0, s1, s2, s3, s4, s5, s6, s7, s8, s9, t0, t1, t2, t3, t4, t5, t6, t7, t8, t9, gg⟩ := hH
        cases z
        · go_wp2_with fail
          go_roundw
          case rel => exact ⟨k + 1, by omega, by go_num, Lib.hid ⟨by rw [all_take HB.out, HT.out.1, HLT.out]; rfl, gg⟩⟩
          case measure => simp [RowKit.intOf]; omega
        · go_wp2_with fail
          go_ret
          refine ⟨?_, gg⟩
          rw [show L.all (lonT x) = false from List.all_eq_false.2 ⟨y, List.mem_of_getElem? HB.out, by rw [HLT.out]; decide⟩]
          rfl
    · obtain rfl : k = len := by omega
      go_wp2_with fail
      go_ret
      refine ⟨?_, gg⟩
      have h1 := HP.out.1
      rw [List.take_of_length_le (by rw [HN.out]; omega)] at h1
      rw [h1]
      rfl
theorem rpl (L : List Bd) (key : Int) (hm : L.length ≤ 1000000) (HV : Hid (∀ x ∈ L, chkB x = 0)) (hA : Asc L) : RPl L key (lonB L key) := fun v w h => by
  cases hq : look L key with
  | none =>
    have e : lonB L key = false := by unfold lonB; rw [hq]
    rw [e]
    exact rpl_none L key hm hq v w h
  | some x =>
    rw [lon_all hq]
    exact rpl_some L key x hm HV hA hq v w h
/-- The bodies that are a view of at most 40 bodies. -/
def viwB (L : List Bd) : Bool := decide (L.length ≤ 40) && decide (sortE L = 0)
abbrev RVw (L : List Bd) : Prop := ∀ v w, Lst w v L → Calls Tryz.prog 8 #[v] w fun e w' => ∃ v', e = .returned (.tuple #[v', .bool (viwB L)]) ∧ (Lst w' v' (if L.length ≤ 40 then sortL L else []) ∧ New w v' w') ∧ Kep w.heap.size w w'
set_option maxRecDepth 100000 in
set_option maxHeartbeats 2000000 in
theorem rvw (L : List Bd) : RVw L := fun v w h => by
  obtain ⟨base, cap, rfl⟩ := h.shape
  have HL0 := Lib.hid h
  by_cases hl : L.length ≤ 40
  · have FS := Lib.hid (fun w h => rsort_any (.slice base L.length cap) L w h (by omega))
    have hg : decide ((40 : Int) < (L.length : Int)) = false := decide_eq_false (by omega)
    obtain ⟨z, hz⟩ : ∃ z, decide (sortE L = 0) = z := ⟨_, rfl⟩
    have ez : (sortE L == 0) = z := by rw [← hz]; rfl
    have e1 : viwB L = z := by unfold viwB; rw [decide_eq_true hl, hz]; rfl
    rw [e1, if_pos hl]
    have HS : Hid (sortE L == 0) = Hid (sortE L == 0) := rfl
    clear hz e1 HS h
    generalize sortE L = se at *
    go_enter Tryz.func8, Tryz.ntmps8
    go_wp2_with (first
      | ((with_reducible refine (FS.out _ HL0.out).mono ?_); rintro e w1 ⟨v1, rfl, ⟨l1, n1⟩, g1⟩))
    go_ret2
    exact ⟨_, rfl, ⟨l1, n1⟩, g1⟩
  · have hg : decide ((40 : Int) < (L.length : Int)) = true := decide_eq_true (by omega)
    have e1 : viwB L = false := by unfold viwB; rw [decide_eq_false hl]; rfl
    rw [e1, if_neg hl]
    clear h
    go_enter Tryz.func8, Tryz.ntmps8
    go_wp2_with fail
    go_ret2
    exact ⟨_, rfl, ⟨.inl ⟨rfl, none, 0, rfl⟩, new_nil _ _⟩, Kep.refl _ _⟩
end Go.Proofs.YtangalkbjochjaaGreatDoor
end

section
/-
  Package pairs: what the laws ask of the program.
-/
namespace Go.Proofs.YtangalkbjochjaaGreatDoor
open Go.RowKit Go.Lib

abbrev InI (n : Int) : Prop := -2147483648 ≤ n ∧ n < 2147483648
/-- A view of at most 40 bodies. -/
structure Vw (L : List Bd) : Prop where
  asc : Asc L
  ok : ∀ x ∈ L, chkB x = 0
  key : ∀ x ∈ L, (Lit.int .u32 x.k).wf = true
  len : L.length ≤ 40
theorem vw_of {L : List Bd} (h : viwB L = true) (f : ∀ x ∈ L, Fits x) : L.length ≤ 40 ∧ sortE L = 0 ∧ Vw (sortL L) := by
  unfold viwB at h
  rw [Bool.and_eq_true] at h
  have h1 := of_decide_eq_true h.1
  have h2 := of_decide_eq_true h.2
  have h3 := sortL_asc L
  refine ⟨h1, h2, h3.1, ?_, fun x hx => (sortL_fits f x hx).1, by have := h3.2; omega⟩
  exact (eachE_zero.1 (sorted_each h2)).2
abbrev PFind : Prop := ∀ v L w, Fac w → Lst w v L → Vw L → Calls Tryz.prog 21 #[v] w fun e w' => ∃ v' n, e = .returned (.tuple #[v', .int .i64 n]) ∧ (Sq pv 2 w' v' (pairsL L) ∧ ((pairsL L).length : Int) ≤ n ∧ 2 * n ≤ (L.length : Int) * ((L.length : Int) - 1)) ∧ Kep w.heap.size w w'
/-- A list of keys reads as KLst. -/
theorem kv_klst {w : World} {v : Value} {K : List Int} (h : Sq kv 1 w v K) : KLst w v K := by
  obtain ⟨base, cap, rfl, hc⟩ := h
  cases K with
  | nil => exact .inl ⟨rfl, base, cap, rfl⟩
  | cons x K =>
    obtain ⟨g, off, rfl, _⟩ := hc 0 x rfl
    refine .inr ⟨g, off, cap, rfl, fun k y hy => ?_⟩
    obtain ⟨g', off', e, hi⟩ := hc k y hy
    injection e with e
    injection e with e1 e2
    subst e1 e2
    have := hi 0 _ rfl
    rw [Nat.mul_one] at this
    exact this
end Go.Proofs.YtangalkbjochjaaGreatDoor
end
