/-
  Package view: Diff.
-/
import Derived.Test.YtlfbiijillpnnaaViewMerge
import Derived.Deep.AppendLies
import Derived.Deep.RegionLaw
namespace Go.Proofs.Ytlfbiijillpnnaa
open Go.RowKit Go.Lib

theorem DRel.lt {w wr : World} {A R C : List Int} (h : DRel w wr A R C) : w.heap.size + 1 < wr.heap.size := by
  obtain ⟨⟨V, K, T, _⟩, _⟩ := h
  exact T.lt
theorem DRel.alloc {w wr : World} {A R C : List Int} (h : DRel w wr A R C) (o : Obj) : DRel w (wr.alloc o) A R C := by
  have hl := h.lt
  obtain ⟨⟨V, K, T, hK⟩, h1, h2, h3⟩ := h
  have g := World.grownBy_alloc wr o none
  exact ⟨⟨V, K, T.grown g, hK⟩, fun i hi => (World.cell?_of_block (g.block w.heap.size (by omega) (by simp))).trans (h1 i hi), fun i => (World.frozen?_of_block (g.block w.heap.size (by omega) (by simp))).trans (h2 i), h3.trans ⟨g.os, g.output, g.size, fun k hk => g.block k (by omega) (by simp)⟩⟩
theorem heap_at (W : World) (n : Nat) (hn : n = W.heap.size) (o : Obj) : (W.alloc o).heap[n]? = some o := by subst hn; exact heap_alloc_new W o
theorem DRel.begin (w : World) (t : TypeId) : DRel w ((w.alloc (.cells #[.slice none 0 0, .slice none 0 0, .slice none 0 0] t)).alloc (.cells #[.slice none 0 0, .slice none 0 0, .slice none 0 0] t)) [] [] [] := by
  refine ⟨⟨fun _ => .slice none 0 0, fun _ => [], ⟨fun i hi => ?_, fun i => ?_, fun i hi => World.ownsRow_nil _ _ _ _, fun i j g _ _ e => by cases e⟩, rfl, rfl, rfl⟩, fun i hi => ?_, fun i => ?_, (Kep.alloc (Kep.refl _ _) (Nat.le_refl _) _).alloc (by simp) _⟩
  · rw [World.cell?_alloc_at _ _ _ _ (by simp)]
    rcases i with _ | _ | _ | i <;> first | rfl | omega
  · rw [World.frozen?_alloc_at _ _ _ _ (by simp)]
  · rw [World.cell?_alloc_past _ _ _ (by simp), World.cell?_alloc_at _ _ _ _ rfl]
    rcases i with _ | _ | _ | i <;> first | rfl | omega
  · rw [World.frozen?_alloc_past _ _ _ (by simp)]
    rw [World.frozen?_alloc_at _ _ _ _ rfl]
set_option maxRecDepth 100000 in
set_option maxHeartbeats 4000000 in
theorem d_rem (w wr : World) (A R C : List Int) (x : Bd) (hr : DRel w wr A R C) (hl : (R).length ≤ 1000000) : Calls Try.prog 30 #[.agg #[.int .u32 x.k, .int .i32 x.r, .int .i32 x.ax, .int .i32 x.ay, .int .i32 x.m, .int .i32 x.o, .int .i32 x.px, .int .i32 x.py, .int .i32 x.vx, .int .i32 x.vy], .pointer (some ⟨w.heap.size + 1, 0, none⟩)] wr fun e w2 => e = .returned (.tuple #[]) ∧ DRel w w2 A (R ++ [x.k]) C := by
  obtain ⟨i0, hi, hz0, hz1, hz2⟩ := info_parts info_u32
  have HI := Lib.hid hi
  obtain ⟨⟨V, K, T, hA, hR, hC⟩, rest⟩ := hr.alloc (.cells #[.int .u32 x.k, .int .i32 x.r, .int .i32 x.ax, .int .i32 x.ay, .int .i32 x.m, .int .i32 x.o, .int .i32 x.px, .int .i32 x.py, .int .i32 x.vx, .int .i32 x.vy] 38)
  have lw : w.heap.size + 1 < wr.heap.size := hr.lt
  have y0 : (wr.alloc (.cells #[.int .u32 x.k, .int .i32 x.r, .int .i32 x.ax, .int .i32 x.ay, .int .i32 x.m, .int .i32 x.o, .int .i32 x.px, .int .i32 x.py, .int .i32 x.vx, .int .i32 x.vy] 38)).cell? ⟨wr.heap.size, 0, none⟩ = some (.int .u32 x.k) := by rw [World.cell?_alloc_at _ _ _ _ rfl]; rfl
  have KA : upd K 1 (K 1 ++ [x.k]) 0 = A := (by show upd K 1 _ 0 = _; exact hA)
  have KR : upd K 1 (K 1 ++ [x.k]) 1 = R ++ [x.k] := (by show upd K 1 _ 1 = _; exact congrArg (· ++ [x.k]) hR)
  have KC : upd K 1 (K 1 ++ [x.k]) 2 = C := (by show upd K 1 _ 2 = _; exact hC)
  have hl1 : (K 1).length ≤ 1000000 := by rw [hR]; exact hl
  replace KA := Lib.hid KA
  replace KR := Lib.hid KR
  replace KC := Lib.hid KC
  have HT := Lib.hid T
  have HR := Lib.hid rest
  have c1 := T.cell 1 (by decide)
  clear hi T hA hR hC rest hr hl
  have n3 : Hid (some (w.heap.size + 1) ≠ (V 1).ownBlock) := Lib.hid (fun e => by have := ((HT.out.own 1 (by decide)).lt _ e.symm).1; omega)
  have AO : Hid (∀ o, ((wr.alloc (.cells #[.int .u32 x.k, .int .i32 x.r, .int .i32 x.ax, .int .i32 x.ay, .int .i32 x.m, .int .i32 x.o, .int .i32 x.px, .int .i32 x.py, .int .i32 x.vx, .int .i32 x.vy] 38)).alloc o).ownsRow (w.heap.size + 1 + 1) 23 1 (V 1) (K 1).length (kv (K 1))) := Lib.hid (fun o => (HT.out.own 1 (by decide)).alloc o)
  have T2 : Hid (∀ o, Tri (w.heap.size + 1) ((wr.alloc (.cells #[.int .u32 x.k, .int .i32 x.r, .int .i32 x.ax, .int .i32 x.ay, .int .i32 x.m, .int .i32 x.o, .int .i32 x.px, .int .i32 x.py, .int .i32 x.vx, .int .i32 x.vy] 38)).alloc o) V K) := Lib.hid (fun o => HT.out.grown (World.grownBy_alloc _ o none))
  have d1 := Lib.hid (fun o => (T2.out o).cell 1 (by decide))
  have e1 := Lib.hid (fun o => (T2.out o).fr 1)
  go_enter Try.func30, Try.ntmps30
  go_wp2_with (at_builtin; refine wpList_append_lies _ rfl _ _ 41 rfl (w.heap.size + 1 + 1) 23 i0 (.int .u32 0) 1 4 Try.underlying41 HI.out hz0 hz1 hz2 rfl (by decide) (V 1) (K 1).length (kv (K 1)) rfl (AO.out _) ⟨_, 0, none⟩ 1 1 [.int .u32 x.k] rfl rfl (World.news_of_block (cs := #[Value.int .u32 x.k]) (t := 23) (fr := (0, 0)) (heap_at _ _ (by simp) _)) (by simp [Value.oneCell']) (by decide) (by unfold maxLen; omega) (by omega) (by simp; omega) (wr.heap.size + 1 + 1) (by simp) ?_; intro g cap' w4 hown hgrow hat hlt; have d2 := hgrow.cell (d1.out _) n3.out; have e2 : w4.frozen? ⟨w.heap.size + 1, 1, none⟩ = false := (hgrow.frozen_far _ (World.block_lt_of_cell? _ _ (d1.out _)) n3.out).trans (e1.out _); have l2 : w.heap.size + 1 < w4.heap.size := World.block_lt_of_cell? _ _ d2)
  go_end0
  exact ⟨rfl, (DRel.more (wr := (wr.alloc (.cells #[.int .u32 x.k, .int .i32 x.r, .int .i32 x.ax, .int .i32 x.ay, .int .i32 x.m, .int .i32 x.o, .int .i32 x.px, .int .i32 x.py, .int .i32 x.vx, .int .i32 x.vy] 38))) HT.out HR.out.1 HR.out.2.1 HR.out.2.2 (World.grownBy_alloc _ _ none) (by decide) hown hgrow (hat.imp id (fun e => by rw [e]; simp))).cast KA.out KR.out KC.out⟩
set_option maxRecDepth 100000 in
set_option maxHeartbeats 4000000 in
theorem d_add (w wr : World) (A R C : List Int) (x : Bd) (hr : DRel w wr A R C) (hl : (A).length ≤ 1000000) : Calls Try.prog 31 #[.agg #[.int .u32 x.k, .int .i32 x.r, .int .i32 x.ax, .int .i32 x.ay, .int .i32 x.m, .int .i32 x.o, .int .i32 x.px, .int .i32 x.py, .int .i32 x.vx, .int .i32 x.vy], .pointer (some ⟨w.heap.size + 1, 0, none⟩)] wr fun e w2 => e = .returned (.tuple #[]) ∧ DRel w w2 (A ++ [x.k]) R C := by
  obtain ⟨i0, hi, hz0, hz1, hz2⟩ := info_parts info_u32
  have HI := Lib.hid hi
  obtain ⟨⟨V, K, T, hA, hR, hC⟩, rest⟩ := hr.alloc (.cells #[.int .u32 x.k, .int .i32 x.r, .int .i32 x.ax, .int .i32 x.ay, .int .i32 x.m, .int .i32 x.o, .int .i32 x.px, .int .i32 x.py, .int .i32 x.vx, .int .i32 x.vy] 38)
  have lw : w.heap.size + 1 < wr.heap.size := hr.lt
  have y0 : (wr.alloc (.cells #[.int .u32 x.k, .int .i32 x.r, .int .i32 x.ax, .int .i32 x.ay, .int .i32 x.m, .int .i32 x.o, .int .i32 x.px, .int .i32 x.py, .int .i32 x.vx, .int .i32 x.vy] 38)).cell? ⟨wr.heap.size, 0, none⟩ = some (.int .u32 x.k) := by rw [World.cell?_alloc_at _ _ _ _ rfl]; rfl
  have KA : upd K 0 (K 0 ++ [x.k]) 0 = A ++ [x.k] := (by show upd K 0 _ 0 = _; exact congrArg (· ++ [x.k]) hA)
  have KR : upd K 0 (K 0 ++ [x.k]) 1 = R := (by show upd K 0 _ 1 = _; exact hR)
  have KC : upd K 0 (K 0 ++ [x.k]) 2 = C := (by show upd K 0 _ 2 = _; exact hC)
  have hl1 : (K 0).length ≤ 1000000 := by rw [hA]; exact hl
  replace KA := Lib.hid KA
  replace KR := Lib.hid KR
  replace KC := Lib.hid KC
  have HT := Lib.hid T
  have HR := Lib.hid rest
  have c1 := T.cell 0 (by decide)
  clear hi T hA hR hC rest hr hl
  have n3 : Hid (some (w.heap.size + 1) ≠ (V 0).ownBlock) := Lib.hid (fun e => by have := ((HT.out.own 0 (by decide)).lt _ e.symm).1; omega)
  have AO : Hid (∀ o, ((wr.alloc (.cells #[.int .u32 x.k, .int .i32 x.r, .int .i32 x.ax, .int .i32 x.ay, .int .i32 x.m, .int .i32 x.o, .int .i32 x.px, .int .i32 x.py, .int .i32 x.vx, .int .i32 x.vy] 38)).alloc o).ownsRow (w.heap.size + 1 + 1) 23 1 (V 0) (K 0).length (kv (K 0))) := Lib.hid (fun o => (HT.out.own 0 (by decide)).alloc o)
  have T2 : Hid (∀ o, Tri (w.heap.size + 1) ((wr.alloc (.cells #[.int .u32 x.k, .int .i32 x.r, .int .i32 x.ax, .int .i32 x.ay, .int .i32 x.m, .int .i32 x.o, .int .i32 x.px, .int .i32 x.py, .int .i32 x.vx, .int .i32 x.vy] 38)).alloc o) V K) := Lib.hid (fun o => HT.out.grown (World.grownBy_alloc _ o none))
  have d1 := Lib.hid (fun o => (T2.out o).cell 0 (by decide))
  have e1 := Lib.hid (fun o => (T2.out o).fr 0)
  go_enter Try.func31, Try.ntmps31
  go_wp2_with (at_builtin; refine wpList_append_lies _ rfl _ _ 41 rfl (w.heap.size + 1 + 1) 23 i0 (.int .u32 0) 1 4 Try.underlying41 HI.out hz0 hz1 hz2 rfl (by decide) (V 0) (K 0).length (kv (K 0)) rfl (AO.out _) ⟨_, 0, none⟩ 1 1 [.int .u32 x.k] rfl rfl (World.news_of_block (cs := #[Value.int .u32 x.k]) (t := 23) (fr := (0, 0)) (heap_at _ _ (by simp) _)) (by simp [Value.oneCell']) (by decide) (by unfold maxLen; omega) (by omega) (by simp; omega) (wr.heap.size + 1 + 1) (by simp) ?_; intro g cap' w4 hown hgrow hat hlt; have d2 := hgrow.cell (d1.out _) n3.out; have e2 : w4.frozen? ⟨w.heap.size + 1, 0, none⟩ = false := (hgrow.frozen_far _ (World.block_lt_of_cell? _ _ (d1.out _)) n3.out).trans (e1.out _); have l2 : w.heap.size + 1 < w4.heap.size := World.block_lt_of_cell? _ _ d2)
  go_end0
  exact ⟨rfl, (DRel.more (wr := (wr.alloc (.cells #[.int .u32 x.k, .int .i32 x.r, .int .i32 x.ax, .int .i32 x.ay, .int .i32 x.m, .int .i32 x.o, .int .i32 x.px, .int .i32 x.py, .int .i32 x.vx, .int .i32 x.vy] 38))) HT.out HR.out.1 HR.out.2.1 HR.out.2.2 (World.grownBy_alloc _ _ none) (by decide) hown hgrow (hat.imp id (fun e => by rw [e]; simp))).cast KA.out KR.out KC.out⟩
set_option maxRecDepth 100000 in
set_option maxHeartbeats 4000000 in
theorem d_same (w wr : World) (A R C : List Int) (x y : Bd) (hr : DRel w wr A R C) (he : eqB x y = true) : Calls Try.prog 32 #[.agg #[.int .u32 x.k, .int .i32 x.r, .int .i32 x.ax, .int .i32 x.ay, .int .i32 x.m, .int .i32 x.o, .int .i32 x.px, .int .i32 x.py, .int .i32 x.vx, .int .i32 x.vy], .agg #[.int .u32 y.k, .int .i32 y.r, .int .i32 y.ax, .int .i32 y.ay, .int .i32 y.m, .int .i32 y.o, .int .i32 y.px, .int .i32 y.py, .int .i32 y.vx, .int .i32 y.vy], .pointer (some ⟨w.heap.size + 1, 0, none⟩)] wr fun e w2 => e = .returned (.tuple #[]) ∧ DRel w w2 A R C := by
  have e := body_cmp x y
  rw [he] at e
  have HR := Lib.hid ((hr.alloc (.cells #[.int .u32 x.k, .int .i32 x.r, .int .i32 x.ax, .int .i32 x.ay, .int .i32 x.m, .int .i32 x.o, .int .i32 x.px, .int .i32 x.py, .int .i32 x.vx, .int .i32 x.vy] 38)).alloc (.cells #[.int .u32 y.k, .int .i32 y.r, .int .i32 y.ax, .int .i32 y.ay, .int .i32 y.m, .int .i32 y.o, .int .i32 y.px, .int .i32 y.py, .int .i32 y.vx, .int .i32 y.vy] 38))
  clear he hr
  go_enter Try.func32, Try.ntmps32
  go_wp2
  go_end0
  exact ⟨rfl, HR.out⟩
set_option maxRecDepth 100000 in
set_option maxHeartbeats 4000000 in
theorem d_chg (w wr : World) (A R C : List Int) (x y : Bd) (hr : DRel w wr A R C) (hl : C.length ≤ 1000000) (he : eqB x y = false) : Calls Try.prog 32 #[.agg #[.int .u32 x.k, .int .i32 x.r, .int .i32 x.ax, .int .i32 x.ay, .int .i32 x.m, .int .i32 x.o, .int .i32 x.px, .int .i32 x.py, .int .i32 x.vx, .int .i32 x.vy], .agg #[.int .u32 y.k, .int .i32 y.r, .int .i32 y.ax, .int .i32 y.ay, .int .i32 y.m, .int .i32 y.o, .int .i32 y.px, .int .i32 y.py, .int .i32 y.vx, .int .i32 y.vy], .pointer (some ⟨w.heap.size + 1, 0, none⟩)] wr fun e w2 => e = .returned (.tuple #[]) ∧ DRel w w2 A R (C ++ [x.k]) := by
  have e := body_cmp x y
  rw [he] at e
  obtain ⟨i0, hi, hz0, hz1, hz2⟩ := info_parts info_u32
  have HI := Lib.hid hi
  have lw : w.heap.size + 1 < wr.heap.size := hr.lt
  have HD := Lib.hid ((hr.alloc (.cells #[.int .u32 x.k, .int .i32 x.r, .int .i32 x.ax, .int .i32 x.ay, .int .i32 x.m, .int .i32 x.o, .int .i32 x.px, .int .i32 x.py, .int .i32 x.vx, .int .i32 x.vy] 38)).alloc (.cells #[.int .u32 y.k, .int .i32 y.r, .int .i32 y.ax, .int .i32 y.ay, .int .i32 y.m, .int .i32 y.o, .int .i32 y.px, .int .i32 y.py, .int .i32 y.vx, .int .i32 y.vy] 38))
  have Y0 : Hid (((wr.alloc (.cells #[.int .u32 x.k, .int .i32 x.r, .int .i32 x.ax, .int .i32 x.ay, .int .i32 x.m, .int .i32 x.o, .int .i32 x.px, .int .i32 x.py, .int .i32 x.vx, .int .i32 x.vy] 38)).alloc (.cells #[.int .u32 y.k, .int .i32 y.r, .int .i32 y.ax, .int .i32 y.ay, .int .i32 y.m, .int .i32 y.o, .int .i32 y.px, .int .i32 y.py, .int .i32 y.vx, .int .i32 y.vy] 38)).cell? ⟨wr.heap.size, 0, none⟩ = some (.int .u32 x.k)) := Lib.hid (by rw [World.cell?_alloc_past _ _ _ (by simp), World.cell?_alloc_at _ _ _ _ rfl]; rfl)
  clear hi he hr
  obtain ⟨⟨V, K, T, hA, hR, hC⟩, rest⟩ := HD.out
  have hl1 : (K 2).length ≤ 1000000 := by rw [hC]; exact hl
  have KA : Hid (upd K 2 (K 2 ++ [x.k]) 0 = A) := Lib.hid hA
  have KR : Hid (upd K 2 (K 2 ++ [x.k]) 1 = R) := Lib.hid hR
  have KC : Hid (upd K 2 (K 2 ++ [x.k]) 2 = C ++ [x.k]) := Lib.hid (congrArg (· ++ [x.k]) hC)
  have HT := Lib.hid T
  have HR := Lib.hid rest
  have c1 := T.cell 2 (by decide)
  have y0 := Y0.out
  clear T hA hR hC rest hl HD Y0
  have n3 : Hid (some (w.heap.size + 1) ≠ (V 2).ownBlock) := Lib.hid (fun e => by have := ((HT.out.own 2 (by decide)).lt _ e.symm).1; omega)
  have AO : Hid (∀ o, (((wr.alloc (.cells #[.int .u32 x.k, .int .i32 x.r, .int .i32 x.ax, .int .i32 x.ay, .int .i32 x.m, .int .i32 x.o, .int .i32 x.px, .int .i32 x.py, .int .i32 x.vx, .int .i32 x.vy] 38)).alloc (.cells #[.int .u32 y.k, .int .i32 y.r, .int .i32 y.ax, .int .i32 y.ay, .int .i32 y.m, .int .i32 y.o, .int .i32 y.px, .int .i32 y.py, .int .i32 y.vx, .int .i32 y.vy] 38)).alloc o).ownsRow (w.heap.size + 1 + 1) 23 1 (V 2) (K 2).length (kv (K 2))) := Lib.hid (fun o => (HT.out.own 2 (by decide)).alloc o)
  have T2 : Hid (∀ o, Tri (w.heap.size + 1) (((wr.alloc (.cells #[.int .u32 x.k, .int .i32 x.r, .int .i32 x.ax, .int .i32 x.ay, .int .i32 x.m, .int .i32 x.o, .int .i32 x.px, .int .i32 x.py, .int .i32 x.vx, .int .i32 x.vy] 38)).alloc (.cells #[.int .u32 y.k, .int .i32 y.r, .int .i32 y.ax, .int .i32 y.ay, .int .i32 y.m, .int .i32 y.o, .int .i32 y.px, .int .i32 y.py, .int .i32 y.vx, .int .i32 y.vy] 38)).alloc o) V K) := Lib.hid (fun o => HT.out.grown (World.grownBy_alloc _ o none))
  have d1 := Lib.hid (fun o => (T2.out o).cell 2 (by decide))
  have e1 := Lib.hid (fun o => (T2.out o).fr 2)
  go_enter Try.func32, Try.ntmps32
  go_wp2_with (at_builtin; refine wpList_append_lies _ rfl _ _ 41 rfl (w.heap.size + 1 + 1) 23 i0 (.int .u32 0) 1 4 Try.underlying41 HI.out hz0 hz1 hz2 rfl (by decide) (V 2) (K 2).length (kv (K 2)) rfl (AO.out _) ⟨_, 0, none⟩ 1 1 [.int .u32 x.k] rfl rfl (World.news_of_block (cs := #[Value.int .u32 x.k]) (t := 23) (fr := (0, 0)) (heap_at _ _ (by simp) _)) (by simp [Value.oneCell']) (by decide) (by unfold maxLen; omega) (by omega) (by simp; omega) (wr.heap.size + 1 + 1 + 1) (by simp) ?_; intro g cap' w4 hown hgrow hat hlt; have d2 := hgrow.cell (d1.out _) n3.out; have e2 : w4.frozen? ⟨w.heap.size + 1, 2, none⟩ = false := (hgrow.frozen_far _ (World.block_lt_of_cell? _ _ (d1.out _)) n3.out).trans (e1.out _); have l2 : w.heap.size + 1 < w4.heap.size := World.block_lt_of_cell? _ _ d2)
  go_end0
  exact ⟨rfl, (DRel.more (wr := ((wr.alloc (.cells #[.int .u32 x.k, .int .i32 x.r, .int .i32 x.ax, .int .i32 x.ay, .int .i32 x.m, .int .i32 x.o, .int .i32 x.px, .int .i32 x.py, .int .i32 x.vx, .int .i32 x.vy] 38)).alloc (.cells #[.int .u32 y.k, .int .i32 y.r, .int .i32 y.ax, .int .i32 y.ay, .int .i32 y.m, .int .i32 y.o, .int .i32 y.px, .int .i32 y.py, .int .i32 y.vx, .int .i32 y.vy] 38))) HT.out HR.out.1 HR.out.2.1 HR.out.2.2 (World.grownBy_alloc _ _ none) (by decide) hown hgrow (hat.imp id (fun e => by rw [e]; simp))).cast KA.out KR.out KC.out⟩
/-- What holds between two bodies that have been gone through. -/
def DI (w : World) (A B : List Bd) (i j : Nat) (wr : World) : Prop := DRel w wr (remL (B.take j) A) (remL (A.take i) B) (chgL (A.take i) B)
set_option maxRecDepth 100000 in
set_option maxHeartbeats 4000000 in
theorem pdiff_some (b1 b2 : Option Addr) (c1 c2 : Nat) (A B : List Bd) (w : World) (h1 : Lst w (.slice b1 A.length c1) A) (h2 : Lst w (.slice b2 B.length c2) B) (l1 : A.length ≤ 1000000) (l2 : B.length ≤ 1000000) (hA : Asc A) (hB : Asc B) :
    Calls Try.prog 18 #[.slice b1 A.length c1, .slice b2 B.length c2] w fun e w' => ∃ v', e = .returned v' ∧ CLst w' v' (diffC A B) ∧ Kep w.heap.size w w' := by
  have M := Lib.hid (fun w1 (h0 : DI w A B 0 0 w1) => merge_d A B b1 b2 c1 c2 (w.heap.size + 1) w w1 h1 h2 l1 l2 hA hB (DI w A B) (Lib.hid fun i j w' h => h.2.2.2) (Lib.hid fun i j w' n h => DRel.drewN h n)
    (Lib.hid fun i j x w' hx hn h => (d_rem w w' _ _ _ x h (by have := remL_len A B i; have := List.length_filter_le (fun x => (look B x.k).isNone) (A.take i); have := List.length_take_le' i A; unfold remL; rw [List.length_map]; omega)).mono fun e w2 ⟨q1, q2⟩ => ⟨q1, q2.cast rfl (by rw [remL_take hx, app_one_if (by rw [hn]; rfl)]) (by rw [chgL_take hx, app_nil_if (chg_none hn)])⟩)
    (Lib.hid fun i j y w' hy hn h => (d_add w w' _ _ _ y h (by have := List.length_filter_le (fun x => (look A x.k).isNone) (B.take j); have := List.length_take_le' j B; unfold remL; rw [List.length_map]; omega)).mono fun e w2 ⟨q1, q2⟩ => ⟨q1, q2.cast (by rw [remL_take hy, app_one_if (by rw [hn]; rfl)]) rfl rfl⟩)
    (Lib.hid fun i j x y w' hx hy hk hn h => by
      have hn2 : look A y.k = some x := by rw [← hk]; exact look_mem hA.once (List.mem_of_getElem? hx)
      cases q : eqB x y with
      | true => exact (d_same w w' _ _ _ x y h q).mono fun e w2 ⟨q1, q2⟩ => ⟨q1, q2.cast (by rw [remL_take hy, app_nil_if (by rw [hn2]; rfl)]) (by rw [remL_take hx, app_nil_if (by rw [hn]; rfl)]) (by rw [chgL_take hx, app_nil_if (by rw [chg_some hn, eqB_comm, q]; rfl)])⟩
      | false => exact (d_chg w w' _ _ _ x y h (by have := List.length_filter_le (chgB B) (A.take i); have := List.length_take_le' i A; unfold chgL; rw [List.length_map]; omega) q).mono fun e w2 ⟨q1, q2⟩ => ⟨q1, q2.cast (by rw [remL_take hy, app_nil_if (by rw [hn2]; rfl)]) (by rw [remL_take hx, app_nil_if (by rw [hn]; rfl)]) (by rw [chgL_take hx, app_one_if (by rw [chg_some hn, eqB_comm, q]; rfl)])⟩)
    h0)
  have D0 : Hid (DI w A B 0 0 _) := Lib.hid (DRel.begin w 45)
  have HE : Hid (∀ w', DI w A B A.length B.length w' → DRel w w' (diffC A B).add (diffC A B).rem (diffC A B).chg) := Lib.hid fun w' h => DRel.cast h (by rw [List.take_length]; rfl) (by rw [List.take_length]; rfl) (by rw [List.take_length]; rfl)
  have hmf : ∀ (fn : Fn) (first cap : Array Value) (w : World), (Instr.makeFunc fn first cap).run Try.prog w = .ok (.func fn first cap) w := fun _ _ _ _ => rfl
  generalize diffC A B = D at HE ⊢
  generalize A.length = n1 at *
  generalize B.length = n2 at *
  clear h1 h2 l1 l2 hA hB
  go_enter Try.func18, Try.ntmps18
  go_wp2_with ((with_reducible refine (M.out _ D0.out).mono ?_); rintro e w5 ⟨rfl, h5⟩; obtain ⟨⟨V, K, T, hA, hR, hC⟩, hb, hf, hkk⟩ := HE.out _ h5; obtain ⟨b0, s0, q0⟩ := T.shape (i := 0) (by decide); obtain ⟨b1, s1, q1⟩ := T.shape (i := 1) (by decide); obtain ⟨b2, s2, q2⟩ := T.shape (i := 2) (by decide); have c0 := T.cell 0 (by decide); have c1 := T.cell 1 (by decide); have c2 := T.cell 2 (by decide); rw [q0] at c0; rw [q1] at c1; rw [q2] at c2; have r0 := hb 0 (by decide); have r1 := hb 1 (by decide); have r2 := hb 2 (by decide); have f0 := hf 0; have f1 := hf 1; have f2 := hf 2; have HT := Lib.hid T; have HKK := Lib.hid (And.intro hA (And.intro hR hC)); have HR := Lib.hid hkk; have HQ := Lib.hid (And.intro q0 (And.intro q1 q2)); clear T hA hR hC hb hf hkk q0 q1 q2 h5 M HE D0; generalize (K 0).length = l0 at *; generalize (K 1).length = l1 at *; generalize (K 2).length = l2 at *)
  have TF := ((HT.out.far (sc_by _ w.heap.size 0 (.slice b0 l0 s0)) (by omega)).far (sc_by _ w.heap.size 1 (.slice b1 l1 s1)) (by omega)).far (sc_by _ w.heap.size 2 (.slice b2 l2 s2)) (by omega)
  have k0 := own_klst (TF.own 0 (by decide))
  have k1 := own_klst (TF.own 1 (by decide))
  have k2 := own_klst (TF.own 2 (by decide))
  rw [HQ.out.1, HKK.out.1] at k0
  rw [HQ.out.2.1, HKK.out.2.1] at k1
  rw [HQ.out.2.2, HKK.out.2.2] at k2
  exact bodyPost_ret (v := .agg #[.slice b0 l0 s0, .slice b1 l1 s1, .slice b2 l2 s2]) (by simp [results, Try.results18, go_sem, r0, r1, r2]) rfl ⟨_, rfl, ⟨_, _, _, rfl, k0, k1, k2⟩, ((HR.out.setCell (by simp) _).setCell (by simp) _).setCell (by simp) _⟩
theorem pdiff_any : VDiff := fun v1 v2 L M w h1 h2 _ _ m1 m2 hA hB => by
  obtain ⟨b1, c1, rfl⟩ := h1.shape
  obtain ⟨b2, c2, rfl⟩ := h2.shape
  exact pdiff_some b1 b2 c1 c2 L M w h1 h2 m1 m2 hA hB
end Go.Proofs.Ytlfbiijillpnnaa
