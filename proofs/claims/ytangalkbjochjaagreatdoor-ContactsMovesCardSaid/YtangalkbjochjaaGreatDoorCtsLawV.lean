/-
  Package contacts: the law ContactsMoves.
-/
import Derived.Test.YtangalkbjochjaaGreatDoorCtsCon
import Derived.Test.YtangalkbjochjaaGreatDoorVwKit
import Derived.Deep.DeepCutAuto
import Derived.Deep.QuietTactic
import Derived.BigQuiet
namespace Go.Proofs.YtangalkbjochjaaGreatDoor
open Go.RowKit Go.Lib

set_option maxRecDepth 100000 in
set_option maxHeartbeats 2000000 in
theorem cvl_bad (AW : Hid CAwake) (dx dy : Int) (L : List Bd) (v : Value) (w : World) (F0 : Fac w) (hq : Lst w v L) (hvw : viwB L = false) : Calls Tryz.prog 6 #[v, .agg #[.int .i32 dx, .int .i32 dy]] w fun e w' => e = .returned (.bool true) ∧ Kep w.heap.size w w' := by
  obtain ⟨base, cap, rfl⟩ := hq.shape
  have HQ := Lib.hid hq
  clear hq
  have VW : Hid (∀ v w, Lst w v L → Calls Tryz.prog 8 #[v] w fun e w' => ∃ v', e = .returned (.tuple #[v', .bool false]) ∧ Lst w' v' (if L.length ≤ 40 then sortL L else []) ∧ Kep w.heap.size w w') := Lib.hid (fun v w h => (rvw L v w h).mono fun e w' ⟨v', h1, h2, h3⟩ => ⟨v', by rw [h1]; rw [hvw], h2.1, h3⟩)
  go_enter Tryz.func6, Tryz.ntmps6
  go_wp2_with (first
    | ((with_reducible refine (VW.out _ _ (HQ.out.kep (kep_more (Kep.refl _ _) _))).mono ?_); rintro e w1 ⟨v1, rfl, l1, g1⟩
       have d0 := Kep.all g1 (a := ⟨w.heap.size, 0, none⟩) (v := .int .i32 dx) (by (repeat (first | rw [World.cell?_drew] | rw [World.cell?_alloc_past _ _ _ (by first | (simp; done) | (simp; omega))])); rw [World.cell?_alloc_at _ _ _ _ (by simp)]; rfl)
       have d1 := Kep.all g1 (a := ⟨w.heap.size, 1, none⟩) (v := .int .i32 dy) (by (repeat (first | rw [World.cell?_drew] | rw [World.cell?_alloc_past _ _ _ (by first | (simp; done) | (simp; omega))])); rw [World.cell?_alloc_at _ _ _ _ (by simp)]; rfl)
       have gg := kep_next (kep_more (Kep.refl _ _) _) g1
       have zd_w1 : w.heap.size < w1.heap.size := World.block_lt_of_cell? _ _ d0)
    | ((with_reducible refine (AW.out _ (F0.kep (by (repeat (first | with_reducible assumption | refine kep_more ?_ _ | refine kep_drew ?_ | exact Kep.refl _ _))))).mono ?_); rintro e w2 ⟨rfl, g2⟩
       replace d0 := Kep.all g2 (a := ⟨w.heap.size, 0, none⟩) (v := .int .i32 dx) d0
       replace d1 := Kep.all g2 (a := ⟨w.heap.size, 1, none⟩) (v := .int .i32 dy) d1
       replace gg := kep_next gg g2
       replace l1 := l1.kep g2
       have zd_w2 : w.heap.size < w2.heap.size := World.block_lt_of_cell? _ _ d0))
  go_ret
  exact ⟨rfl, gg⟩
set_option maxRecDepth 100000 in
set_option maxHeartbeats 8000000 in
theorem cvl_ok (O : COps) (AW : Hid CAwake) (dx dy : Int) (hdx : InI dx) (hdy : InI dy) (L : List Bd) (v : Value) (w : World) (F0 : Fac w) (hq : Lst w v L) (HF : Hid (∀ x ∈ L, Fits x)) (hvw : viwB L = true) : Calls Tryz.prog 6 #[v, .agg #[.int .i32 dx, .int .i32 dy]] w fun e w' => e = .returned (.bool true) ∧ Kep w.heap.size w w' := by
  obtain ⟨base, cap, rfl⟩ := hq.shape
  have HQ := Lib.hid hq
  clear hq
  have VW : Hid (∀ v w, Lst w v L → Calls Tryz.prog 8 #[v] w fun e w' => ∃ v', e = .returned (.tuple #[v', .bool true]) ∧ Lst w' v' (sortL L) ∧ Kep w.heap.size w w') := Lib.hid (fun v w h => (rvw L v w h).mono fun e w' ⟨v', h1, h2, h3⟩ => ⟨v', by rw [h1]; rw [hvw], by have := h2.1; rw [if_pos (vw_of hvw HF.out).1] at this; exact this, h3⟩)
  have HVW := Lib.hid (vw_of hvw HF.out).2.2
  obtain ⟨A, hA⟩ : ∃ A, A = sortL L := ⟨_, rfl⟩
  rw [← hA] at VW HVW
  go_enter Tryz.func6, Tryz.ntmps6
  go_wp2_with (first
    | ((with_reducible refine (VW.out _ _ (HQ.out.kep (kep_more (Kep.refl _ _) _))).mono ?_); rintro e w1 ⟨v1, rfl, l1, g1⟩
       have d0 := Kep.all g1 (a := ⟨w.heap.size, 0, none⟩) (v := .int .i32 dx) (by (repeat (first | rw [World.cell?_drew] | rw [World.cell?_alloc_past _ _ _ (by first | (simp; done) | (simp; omega))])); rw [World.cell?_alloc_at _ _ _ _ (by simp)]; rfl)
       have d1 := Kep.all g1 (a := ⟨w.heap.size, 1, none⟩) (v := .int .i32 dy) (by (repeat (first | rw [World.cell?_drew] | rw [World.cell?_alloc_past _ _ _ (by first | (simp; done) | (simp; omega))])); rw [World.cell?_alloc_at _ _ _ _ (by simp)]; rfl)
       have gg := kep_next (kep_more (Kep.refl _ _) _) g1
       have zd_w1 : w.heap.size < w1.heap.size := World.block_lt_of_cell? _ _ d0)
    | ((with_reducible refine (AW.out _ (F0.kep (by (repeat (first | with_reducible assumption | refine kep_more ?_ _ | refine kep_drew ?_ | exact Kep.refl _ _))))).mono ?_); rintro e w2 ⟨rfl, g2⟩
       replace d0 := Kep.all g2 (a := ⟨w.heap.size, 0, none⟩) (v := .int .i32 dx) d0
       replace d1 := Kep.all g2 (a := ⟨w.heap.size, 1, none⟩) (v := .int .i32 dy) d1
       replace gg := kep_next gg g2
       replace l1 := l1.kep g2
       have zd_w2 : w.heap.size < w2.heap.size := World.block_lt_of_cell? _ _ d0))
  have G0 := Lib.hid gg
  have HL := Lib.hid l1
  have HAV := HVW.out.len
  obtain ⟨ba, ca, rfl⟩ := l1.shape
  have HC := Lib.hid (fun (k : Nat) (x : Bd) (hx : A[k]? = some x) => l1.at_ hx)
  have HD0 := Lib.hid d0
  have HD1 := Lib.hid d1
  clear gg l1 d0 d1
  generalize hna : A.length = na at *
  have HN := Lib.hid hna
  clear hna
  go_wp2_with fail
  go_loopw [7, 8, 9, 10, 11] (fun out i _ _ _ wr => ∃ k : Nat, k ≤ na ∧ i = .int .i64 k ∧ Hid ((∀ x ∈ A.take k, stayK dx dy x) ∧ wr.ownsRow w2.heap.size 46 10 out ((A.take k).map (mvB dx dy)).length (((A.take k).map (mvB dx dy)).flatMap vals) ∧ Kep w2.heap.size w2 wr)) (fun _ i _ _ _ _ => na - (RowKit.intOf i).toNat)
  case atStart => exact ⟨0, by omega, rfl, Lib.hid ⟨by simp, World.ownsRow_nil _ _ _ _, Kep.refl _ _⟩⟩
  case round =>
    obtain ⟨k, hk, rfl, HP⟩ := hrel
    by_cases hlt : k < na
    · have hb : A[k]? = some (A[k]'(by rw [HN.out]; exact hlt)) := List.getElem?_eq_getElem _
      generalize A[k]'(by rw [HN.out]; exact hlt) = x at hb
      obtain ⟨gl, off, rfl, qx⟩ := HC.out k x hb
      have HQX := Lib.hid qx
      have gg := HP.out.2.2
      have HST := Lib.hid HP.out.1
      have HO := Lib.hid HP.out.2.1
      have HX := Lib.hid hb
      have hxl := Lib.hid (ext_B (HVW.out.ok x (List.mem_of_getElem? hb)))
      have HLT : Hid (((A.take k).map (mvB dx dy)).length = k) := Lib.hid (by rw [List.length_map, List.length_take]; have := HN.out; omega)
      have d0 := gg.all HD0.out
      have d1 := gg.all HD1.out
      clear hb qx HP
      have s0 : wr.cell? ⟨gl, off + k * 10, none⟩ = some (.int .u32 x.k) := gg.all (HQX.out 0 (by decide))
      have s1 : wr.cell? ⟨gl, off + k * 10 + 1, none⟩ = some (.int .i32 x.r) := gg.all (HQX.out 1 (by decide))
      have s2 : wr.cell? ⟨gl, off + k * 10 + 2, none⟩ = some (.int .i32 x.ax) := gg.all (HQX.out 2 (by decide))
      have s3 : wr.cell? ⟨gl, off + k * 10 + 3, none⟩ = some (.int .i32 x.ay) := gg.all (HQX.out 3 (by decide))
      have s4 : wr.cell? ⟨gl, off + k * 10 + 4, none⟩ = some (.int .i32 x.m) := gg.all (HQX.out 4 (by decide))
      have s5 : wr.cell? ⟨gl, off + k * 10 + 5, none⟩ = some (.int .i32 x.o) := gg.all (HQX.out 5 (by decide))
      have s6 : wr.cell? ⟨gl, off + k * 10 + 6, none⟩ = some (.int .i32 x.px) := gg.all (HQX.out 6 (by decide))
      have s7 : wr.cell? ⟨gl, off + k * 10 + 7, none⟩ = some (.int .i32 x.py) := gg.all (HQX.out 7 (by decide))
      have s8 : wr.cell? ⟨gl, off + k * 10 + 8, none⟩ = some (.int .i32 x.vx) := gg.all (HQX.out 8 (by decide))
      have s9 : wr.cell? ⟨gl, off + k * 10 + 9, none⟩ = some (.int .i32 x.vy) := gg.all (HQX.out 9 (by decide))
      obtain ⟨mx, hmx⟩ : ∃ mx, mx = x.px + dx := ⟨_, rfl⟩
      obtain ⟨my, hmy⟩ : ∃ my, my = x.py + dy := ⟨_, rfl⟩
      have hp1 := hxl.out.2.2.1
      have hp2 := hxl.out.2.2.2
      have f1 : wrap64 (x.px + dx) = mx := by unfold wrap64; omega
      have f2 : wrap64 (x.py + dy) = my := by unfold wrap64; omega
      have f3 : IntKind.i64.wrap (x.px + dx) = mx := by rw [IntKind.wrap_i64]; omega
      have f4 : IntKind.i64.wrap (x.py + dy) = my := by rw [IntKind.wrap_i64]; omega
      have f5 : IntKind.i64.wrap x.px = x.px := by rw [IntKind.wrap_i64]; omega
      have f6 : IntKind.i64.wrap x.py = x.py := by rw [IntKind.wrap_i64]; omega
      have f7 : IntKind.i64.wrap dx = dx := by rw [IntKind.wrap_i64]; omega
      have f8 : IntKind.i64.wrap dy = dy := by rw [IntKind.wrap_i64]; omega
      have HMX := Lib.hid hmx
      have HMY := Lib.hid hmy
      clear hmx hmy hp1 hp2 hxl
      go_wp2_with fail
      refine wp_region_noPanic ?_
      refine wp_region_held_drew (S := (fun w' => w'.cell? ⟨gl, off + k * 10, none⟩ = some (.int .u32 x.k) ∧ w'.cell? ⟨gl, off + k * 10 + 1, none⟩ = some (.int .i32 x.r) ∧ w'.cell? ⟨gl, off + k * 10 + 2, none⟩ = some (.int .i32 x.ax) ∧ w'.cell? ⟨gl, off + k * 10 + 3, none⟩ = some (.int .i32 x.ay) ∧ w'.cell? ⟨gl, off + k * 10 + 4, none⟩ = some (.int .i32 x.m) ∧ w'.cell? ⟨gl, off + k * 10 + 5, none⟩ = some (.int .i32 x.o) ∧ w'.cell? ⟨gl, off + k * 10 + 6, none⟩ = some (.int .i32 x.px) ∧ w'.cell? ⟨gl, off + k * 10 + 7, none⟩ = some (.int .i32 x.py) ∧ w'.cell? ⟨gl, off + k * 10 + 8, none⟩ = some (.int .i32 x.vx) ∧ w'.cell? ⟨gl, off + k * 10 + 9, none⟩ = some (.int .i32 x.vy) ∧ w'.cell? ⟨w.heap.size, 0, none⟩ = some (.int .i32 dx) ∧ w'.cell? ⟨w.heap.size, 1, none⟩ = some (.int .i32 dy) ∧ Kep w2.heap.size w2 w')) (by kernel_rfl) (⟨by rw [World.cell?_drew]; exact s0, by rw [World.cell?_drew]; exact s1, by rw [World.cell?_drew]; exact s2, by rw [World.cell?_drew]; exact s3, by rw [World.cell?_drew]; exact s4, by rw [World.cell?_drew]; exact s5, by rw [World.cell?_drew]; exact s6, by rw [World.cell?_drew]; exact s7, by rw [World.cell?_drew]; exact s8, by rw [World.cell?_drew]; exact s9, by rw [World.cell?_drew]; exact d0, by rw [World.cell?_drew]; exact d1, kep_drew gg⟩) (fun hH => ?_)
      refine rtk 0 (oi := ⟨some 34, .move (.tmp 5), _, _, _, none⟩) (v := ?_) rfl ?_ hH ?_
      rotate_left
      · (intro w hSw; (try dsimp only at hSw); go_simp; (try with_reducible rfl))
      refine rtk 1 (oi := ⟨some 35, .move (.tmp 8), _, _, _, none⟩) (v := ?_) rfl ?_ hH ?_
      rotate_left
      · (intro w hSw; (try dsimp only at hSw); go_simp; (try with_reducible rfl))
      refine rtk 2 (oi := ⟨some 36, .indexAddr 22 (.tmp 34) (.tmp 35), _, _, _, none⟩) (v := ?_) rfl ?_ hH ?_
      rotate_left
      · (intro w hSw; (try dsimp only at hSw); go_simp; (try with_reducible rfl))
      refine rtk 3 (oi := ⟨some 37, .fieldAddr 46 (.tmp 36) 5, _, _, _, none⟩) (v := ?_) rfl ?_ hH ?_
      rotate_left
      · (intro w hSw; (try dsimp only at hSw); go_simp; (try with_reducible rfl))
      refine rtk 4 (oi := ⟨some 38, .fieldAddr 33 (.tmp 37) 0, _, _, _, none⟩) (v := ?_) rfl ?_ hH ?_
      rotate_left
      · (intro w hSw; (try dsimp only at hSw); go_simp; (try with_reducible rfl))
      refine rtk 5 (oi := ⟨some 39, .load 21 (.tmp 38), _, _, _, none⟩) (v := ?_) rfl ?_ hH ?_
      rotate_left
      · (intro w hSw; (try dsimp only at hSw); go_simp; (try with_reducible rfl))
      refine rtk 6 (oi := ⟨some 40, .convert 21 2 (.tmp 39), _, _, _, none⟩) (v := ?_) rfl ?_ hH ?_
      rotate_left
      · (intro w hSw; (try dsimp only at hSw); go_simp; (try with_reducible rfl))
      refine rtk 7 (oi := ⟨some 41, .fieldAddr 33 (.tmp 3) 0, _, _, _, none⟩) (v := ?_) rfl ?_ hH ?_
      rotate_left
      · (intro w hSw; (try dsimp only at hSw); go_simp; (try with_reducible rfl))
      refine rtk 8 (oi := ⟨some 42, .load 21 (.tmp 41), _, _, _, none⟩) (v := ?_) rfl ?_ hH ?_
      rotate_left
      · (intro w hSw; (try dsimp only at hSw); go_simp; (try with_reducible rfl))
      refine rtk 9 (oi := ⟨some 43, .convert 21 2 (.tmp 42), _, _, _, none⟩) (v := ?_) rfl ?_ hH ?_
      rotate_left
      · (intro w hSw; (try dsimp only at hSw); go_simp; (try with_reducible rfl))
      refine rtk 10 (oi := ⟨some 44, .binOp .add 2 (.tmp 40) (.tmp 43) 2, _, _, _, none⟩) (v := ?_) rfl ?_ hH ?_
      rotate_left
      · (intro w hSw; (try dsimp only at hSw); go_simp; (try with_reducible rfl))
      refine rtk 11 (oi := ⟨some 9, .assign (.tmp 44), _, _, _, none⟩) (v := ?_) rfl ?_ hH ?_
      rotate_left
      · (intro w hSw; (try dsimp only at hSw); go_simp; (try with_reducible rfl))
      try simp only [Act.put, List.setIfInBounds_toArray, List.set_cons_zero, List.set_cons_succ]
      refine wpAnyH_done (by kernel_rfl) ?_ _
      refine NoPanic.normal ?_
      clear s0 s1 s2 s3 s4 s5 s6 s7 s8 s9 d0 d1 gg
      obtain ⟨s0, s1, s2, s3, s4, s5, s6, s7, s8, s9, d0, d1, gg⟩ := hH
      go_wp2_with fail
      refine wp_region_noPanic ?_
      refine wp_region_held_drew (S := (fun w' => w'.cell? ⟨gl, off + k * 10, none⟩ = some (.int .u32 x.k) ∧ w'.cell? ⟨gl, off + k * 10 + 1, none⟩ = some (.int .i32 x.r) ∧ w'.cell? ⟨gl, off + k * 10 + 2, none⟩ = some (.int .i32 x.ax) ∧ w'.cell? ⟨gl, off + k * 10 + 3, none⟩ = some (.int .i32 x.ay) ∧ w'.cell? ⟨gl, off + k * 10 + 4, none⟩ = some (.int .i32 x.m) ∧ w'.cell? ⟨gl, off + k * 10 + 5, none⟩ = some (.int .i32 x.o) ∧ w'.cell? ⟨gl, off + k * 10 + 6, none⟩ = some (.int .i32 x.px) ∧ w'.cell? ⟨gl, off + k * 10 + 7, none⟩ = some (.int .i32 x.py) ∧ w'.cell? ⟨gl, off + k * 10 + 8, none⟩ = some (.int .i32 x.vx) ∧ w'.cell? ⟨gl, off + k * 10 + 9, none⟩ = some (.int .i32 x.vy) ∧ w'.cell? ⟨w.heap.size, 0, none⟩ = some (.int .i32 dx) ∧ w'.cell? ⟨w.heap.size, 1, none⟩ = some (.int .i32 dy) ∧ Kep w2.heap.size w2 w')) (by kernel_rfl) (⟨by rw [World.cell?_drew]; exact s0, by rw [World.cell?_drew]; exact s1, by rw [World.cell?_drew]; exact s2, by rw [World.cell?_drew]; exact s3, by rw [World.cell?_drew]; exact s4, by rw [World.cell?_drew]; exact s5, by rw [World.cell?_drew]; exact s6, by rw [World.cell?_drew]; exact s7, by rw [World.cell?_drew]; exact s8, by rw [World.cell?_drew]; exact s9, by rw [World.cell?_drew]; exact d0, by rw [World.cell?_drew]; exact d1, kep_drew gg⟩) (fun hH => ?_)
      refine rtk 0 (oi := ⟨some 45, .move (.tmp 5), _, _, _, none⟩) (v := ?_) rfl ?_ hH ?_
      rotate_left
      · (intro w hSw; (try dsimp only at hSw); go_simp; (try with_reducible rfl))
      refine rtk 1 (oi := ⟨some 46, .move (.tmp 8), _, _, _, none⟩) (v := ?_) rfl ?_ hH ?_
      rotate_left
      · (intro w hSw; (try dsimp only at hSw); go_simp; (try with_reducible rfl))
      refine rtk 2 (oi := ⟨some 47, .indexAddr 22 (.tmp 45) (.tmp 46), _, _, _, none⟩) (v := ?_) rfl ?_ hH ?_
      rotate_left
      · (intro w hSw; (try dsimp only at hSw); go_simp; (try with_reducible rfl))
      refine rtk 3 (oi := ⟨some 48, .fieldAddr 46 (.tmp 47) 5, _, _, _, none⟩) (v := ?_) rfl ?_ hH ?_
      rotate_left
      · (intro w hSw; (try dsimp only at hSw); go_simp; (try with_reducible rfl))
      refine rtk 4 (oi := ⟨some 49, .fieldAddr 33 (.tmp 48) 1, _, _, _, none⟩) (v := ?_) rfl ?_ hH ?_
      rotate_left
      · (intro w hSw; (try dsimp only at hSw); go_simp; (try with_reducible rfl))
      refine rtk 5 (oi := ⟨some 50, .load 21 (.tmp 49), _, _, _, none⟩) (v := ?_) rfl ?_ hH ?_
      rotate_left
      · (intro w hSw; (try dsimp only at hSw); go_simp; (try with_reducible rfl))
      refine rtk 6 (oi := ⟨some 51, .convert 21 2 (.tmp 50), _, _, _, none⟩) (v := ?_) rfl ?_ hH ?_
      rotate_left
      · (intro w hSw; (try dsimp only at hSw); go_simp; (try with_reducible rfl))
      refine rtk 7 (oi := ⟨some 52, .fieldAddr 33 (.tmp 3) 1, _, _, _, none⟩) (v := ?_) rfl ?_ hH ?_
      rotate_left
      · (intro w hSw; (try dsimp only at hSw); go_simp; (try with_reducible rfl))
      refine rtk 8 (oi := ⟨some 53, .load 21 (.tmp 52), _, _, _, none⟩) (v := ?_) rfl ?_ hH ?_
      rotate_left
      · (intro w hSw; (try dsimp only at hSw); go_simp; (try with_reducible rfl))
      refine rtk 9 (oi := ⟨some 54, .convert 21 2 (.tmp 53), _, _, _, none⟩) (v := ?_) rfl ?_ hH ?_
      rotate_left
      · (intro w hSw; (try dsimp only at hSw); go_simp; (try with_reducible rfl))
      refine rtk 10 (oi := ⟨some 55, .binOp .add 2 (.tmp 51) (.tmp 54) 2, _, _, _, none⟩) (v := ?_) rfl ?_ hH ?_
      rotate_left
      · (intro w hSw; (try dsimp only at hSw); go_simp; (try with_reducible rfl))
      refine rtk 11 (oi := ⟨some 10, .assign (.tmp 55), _, _, _, none⟩) (v := ?_) rfl ?_ hH ?_
      rotate_left
      · (intro w hSw; (try dsimp only at hSw); go_simp; (try with_reducible rfl))
      try simp only [Act.put, List.setIfInBounds_toArray, List.set_cons_zero, List.set_cons_succ]
      refine wpAnyH_done (by kernel_rfl) ?_ _
      refine NoPanic.normal ?_
      clear s0 s1 s2 s3 s4 s5 s6 s7 s8 s9 d0 d1 gg
      obtain ⟨s0, s1, s2, s3, s4, s5, s6, s7, s8, s9, d0, d1, gg⟩ := hH
      try simp only [f5, f6, f7, f8, f3, f4]
      have HO2 := Lib.hid (World.ownsRow.drew (World.ownsRow.drew HO.out))
      clear HO f1 f2 f3 f4 f5 f6 f7 f8
      obtain ⟨wq, hwq⟩ : ∃ x, x = wr.drew.drew := ⟨_, rfl⟩
      rw [← hwq] at s0 s1 s2 s3 s4 s5 s6 s7 s8 s9 d0 d1 gg HO2 ⊢
      clear hwq
      by_cases hs : (mx ≤ 1073741824 ∧ -1073741824 ≤ mx) ∧ (my ≤ 1073741824 ∧ -1073741824 ≤ my)
      rotate_left
      · by_cases k0 : (1073741824 : Int) < mx
        · have c0 : decide ((1073741824 : Int) < mx) = true := decide_eq_true (by omega)
          go_wp2_with fail
          go_ret
          exact ⟨rfl, kep_next G0.out gg⟩
        by_cases k1 : mx < -1073741824
        · have c0 : decide ((1073741824 : Int) < mx) = false := decide_eq_false (by omega)
          have c1 : decide (mx < (-1073741824 : Int)) = true := decide_eq_true (by omega)
          go_wp2_with fail
          go_ret
          exact ⟨rfl, kep_next G0.out gg⟩
        by_cases k2 : (1073741824 : Int) < my
        · have c0 : decide ((1073741824 : Int) < mx) = false := decide_eq_false (by omega)
          have c1 : decide (mx < (-1073741824 : Int)) = false := decide_eq_false (by omega)
          have c2 : decide ((1073741824 : Int) < my) = true := decide_eq_true (by omega)
          go_wp2_with fail
          go_ret
          exact ⟨rfl, kep_next G0.out gg⟩
        have c0 : decide ((1073741824 : Int) < mx) = false := decide_eq_false (by omega)
        have c1 : decide (mx < (-1073741824 : Int)) = false := decide_eq_false (by omega)
        have c2 : decide ((1073741824 : Int) < my) = false := decide_eq_false (by omega)
        have c3 : decide (my < (-1073741824 : Int)) = true := decide_eq_true (by omega)
        go_wp2_with fail
        go_ret
        exact ⟨rfl, kep_next G0.out gg⟩
      · have g1 : IntKind.i32.wrap mx = mx := by rw [IntKind.wrap_i32]; omega
        have g2 : IntKind.i32.wrap my = my := by rw [IntKind.wrap_i32]; omega
        have g3 : wrap32 mx = mx := by unfold wrap32; omega
        have g4 : wrap32 my = my := by unfold wrap32; omega
        have c0 : decide ((1073741824 : Int) < mx) = false := decide_eq_false (by omega)
        have c1 : decide (mx < (-1073741824 : Int)) = false := decide_eq_false (by omega)
        have c2 : decide ((1073741824 : Int) < my) = false := decide_eq_false (by omega)
        have c3 : decide (my < (-1073741824 : Int)) = false := decide_eq_false (by omega)
        have HS1 : Hid (stayK dx dy x) := Lib.hid (by unfold stayK; rw [← HMX.out, ← HMY.out]; omega)
        clear hs
        have zq : w.heap.size < wq.heap.size := World.block_lt_of_cell? _ _ d0
        go_wp2_with (first
          | (at_builtin; refine wpList_app vals 10 vals_lenK vals_oneK rfl _ _ 22 rfl 46 _ 40 Tryz.underlying22 info_body rfl (by decide) w2.heap.size _ _ ((A.take k).map (mvB dx dy)) ⟨x.k, x.r, x.ax, x.ay, x.m, x.o, mx, my, x.vx, x.vy⟩ rfl (World.ownsRow.alloc HO2.out _) _ (by first | rfl | simp) rfl _ rfl (by rw [HLT.out]; unfold maxLen; omega) (by rw [HLT.out]; omega) (by have := gg.size; simp; omega) ?_; intro v3 w3 o3 k3))
        have ht : A.take (k + 1) = A.take k ++ [x] := by rw [List.take_add_one, HX.out]; rfl
        have HM : Hid ((∀ x ∈ A.take (k + 1), stayK dx dy x) ∧ w3.ownsRow w2.heap.size 46 10 v3 ((A.take (k + 1)).map (mvB dx dy)).length (((A.take (k + 1)).map (mvB dx dy)).flatMap vals) ∧ Kep w2.heap.size w2 w3) := Lib.hid (by
          rw [ht]
          have hmv : (⟨x.k, x.r, x.ax, x.ay, x.m, x.o, mx, my, x.vx, x.vy⟩ : Bd) = mvB dx dy x := by unfold mvB; rw [HMX.out, HMY.out]
          rw [hmv] at o3
          refine ⟨fun y hy => ?_, by simpa using o3, (gg.alloc gg.size _).trans k3⟩
          rcases List.mem_append.1 hy with hy | hy
          · exact HST.out y hy
          · rw [List.mem_singleton.1 hy]; exact HS1.out)
        clear o3 k3 ht
        go_roundw
        case rel => exact ⟨k + 1, by omega, by go_num, HM⟩
        case measure => simp [RowKit.intOf]; omega
    · obtain rfl : k = na := by omega
      obtain ⟨h1, h2, h3⟩ := HP.out
      have et : A.take k = A := List.take_of_length_le (by rw [HN.out]; omega)
      rw [et] at h1 h2
      have HVM := Lib.hid (vw_mvK HVW.out h1)
      have HPV := Lib.hid (cons_mv dx dy A)
      have hpm := cons_max HVW.out.len
      have HLM := Lib.hid (own_lst h2)
      have l1 := HL.out.kep h3
      have gg := kep_next G0.out h3
      clear h1 h2 h3 HP et
      go_wp2_with (first
    | ((with_reducible refine (O.all _ A _ (F0.kep gg) l1 HVW.out).mono ?_); rintro e w8 ⟨v8, n8, rfl, ⟨q8, _⟩, g8⟩
       replace gg := kep_next gg g8
       have lm := HLM.out.kep g8
       clear l1)
    | ((with_reducible refine (O.all _ (A.map (mvB dx dy)) _ (F0.kep gg) lm HVM.out).mono ?_); rintro e w9 ⟨v9, n9, rfl, ⟨q9, _⟩, g9⟩
       rw [HPV.out] at q9
       replace gg := kep_next gg g9
       replace q8 := q8.kep g9)
    | ((refine (rks (consL A) (by omega) _ _ _ q8 q9).mono ?_); rintro e w10 ⟨rfl, g10⟩
       replace gg := kep_next gg g10))
      go_ret
      exact ⟨rfl, gg⟩
/-- The law ContactsMoves. -/
theorem cvl_law (O : COps) (AW : CAwake) (dx dy : Int) (hdx : InI dx) (hdy : InI dy) (L : List Bd) (v : Value) (w : World) (F0 : Fac w) (hq : Lst w v L) (HF : ∀ x ∈ L, Fits x) : Calls Tryz.prog 6 #[v, .agg #[.int .i32 dx, .int .i32 dy]] w fun e w' => e = .returned (.bool true) ∧ Kep w.heap.size w w' := by
  cases hvw : viwB L
  · exact cvl_bad (Lib.hid AW) dx dy L v w F0 hq hvw
  · exact cvl_ok O (Lib.hid AW) dx dy hdx hdy L v w F0 hq (Lib.hid HF) hvw
end Go.Proofs.YtangalkbjochjaaGreatDoor
