/-
  Package view: Apply.
-/
import Derived.Test.YtlfbiijillpnnaaViewDiffP
import Derived.Test.YtlfbiijillpnnaaViewHas
import Derived.Test.YtlfbiijillpnnaaViewLawD
import Derived.Deep.DeepCutAuto
namespace Go.Proofs.Ytlfbiijillpnnaa
open Go.RowKit Go.Lib

theorem own_kep {B C n s : Nat} {t : TypeId} {w w' : World} {v : Value} {xs : List Value} (h : w.ownsRow B t s v n xs) (k : Kep C w w') (hl : w.heap.size ≤ C) : w'.ownsRow B t s v n xs := by
  have hlt := h.lt
  obtain ⟨h0, h1⟩ := h
  refine ⟨h0, ?_⟩
  rcases h1 with h1 | ⟨g, cap, cur, rfl, hB, hg, rest⟩
  · exact .inl h1
  · exact .inr ⟨g, cap, cur, rfl, hB, (k.block g (Nat.lt_of_lt_of_le (hlt g rfl).2 hl)).trans hg, rest⟩
/-- The difference's box, the variable that holds the list so far, the list. -/
structure AR (w : World) (x0 x1 x2 : Value) (L : List Bd) (u : Value) (wr : World) : Prop where
  cell : wr.cell? ⟨w.heap.size + 1, 0, none⟩ = some u
  fr : ∀ i, wr.frozen? ⟨w.heap.size + 1, i, none⟩ = false
  own : wr.ownsRow (w.heap.size + 1 + 1) 38 10 u L.length (flat L)
  bx : Bx wr w.heap.size x0 x1 x2
  kep : Kep w.heap.size w wr
theorem AR.lt {w wr : World} {x0 x1 x2 u : Value} {L : List Bd} (h : AR w x0 x1 x2 L u wr) : w.heap.size + 1 < wr.heap.size := World.block_lt_of_cell? _ _ h.cell
theorem AR.ne {w wr : World} {x0 x1 x2 u : Value} {L : List Bd} (h : AR w x0 x1 x2 L u wr) : some (w.heap.size + 1) ≠ u.ownBlock := fun e => by have := (h.own.lt _ e.symm).1; omega
theorem AR.keep {w wr w' : World} {x0 x1 x2 u : Value} {L : List Bd} (h : AR w x0 x1 x2 L u wr) (k : Kep wr.heap.size wr w') : AR w x0 x1 x2 L u w' :=
  ⟨k.all h.cell, fun i => (k.frozen (p := ⟨w.heap.size + 1, i, none⟩) h.lt).trans (h.fr i), own_kep h.own k (Nat.le_refl _), h.bx.kep k, h.kep.next k⟩
theorem AR.dcell {w wr : World} {x0 x1 x2 u : Value} {L : List Bd} (h : AR w x0 x1 x2 L u wr) (o : Obj) : (wr.alloc o).cell? ⟨w.heap.size + 1, 0, none⟩ = some u := (h.keep (Kep.made wr o)).cell
theorem AR.dfr {w wr : World} {x0 x1 x2 u : Value} {L : List Bd} (h : AR w x0 x1 x2 L u wr) (o : Obj) (i : Nat) : (wr.alloc o).frozen? ⟨w.heap.size + 1, i, none⟩ = false := (h.keep (Kep.made wr o)).fr i
/-- A body appended. -/
theorem AR.more {w wr wa w4 : World} {x0 x1 x2 u : Value} {L : List Bd} (h : AR w x0 x1 x2 L u wr) (ga : wr.grownBy wa none) {x : Bd} {g cap : Nat}
    (h4 : w4.ownsRow (w.heap.size + 1 + 1) 38 10 (.slice (some ⟨g, 0, none⟩) (L.length + 1) cap) (L.length + 1) (flat L ++ vals x)) (g4 : wa.grownBy w4 u.ownBlock) (hat : u.ownBlock = some g ∨ wa.heap.size ≤ g) :
    AR w x0 x1 x2 (L ++ [x]) (.slice (some ⟨g, 0, none⟩) (L.length + 1) cap) (w4.setCell ⟨w.heap.size + 1, 0, none⟩ (.slice (some ⟨g, 0, none⟩) (L.length + 1) cap)) := by
  have hl := h.lt
  have hne := h.ne
  have s1 := ga.size
  have s2 := g4.size
  have hb : ∀ k, k < w.heap.size + 1 + 1 → w4.heap[k]? = wr.heap[k]? := fun k hk => (g4.block k (by omega) (fun e => by have := (h.own.lt _ e.symm).1; omega)).trans (ga.block k (by omega) (by simp))
  have gs := sc_by w4 (w.heap.size + 1) 0 (.slice (some ⟨g, 0, none⟩) (L.length + 1) cap)
  have hg : g ≠ w.heap.size + 1 := by
    rcases hat with e | e
    · exact fun q => hne (by rw [e, q])
    · omega
  have hbs : ∀ k, k < w.heap.size + 1 → (w4.setCell ⟨w.heap.size + 1, 0, none⟩ (.slice (some ⟨g, 0, none⟩) (L.length + 1) cap)).heap[k]? = wr.heap[k]? := fun k hk => (gs.block k (by omega) (by simp; omega)).trans (hb k (by omega))
  refine ⟨?_, fun i => ?_, ?_, ?_, ?_⟩
  · exact World.cell?_setCell_same' _ _ _ (by rw [World.cell?_of_block (w := wr) (hb (w.heap.size + 1) (by omega)), h.cell]; rfl)
  · exact (World.frozen?_setCell _ _ _ _).trans ((World.frozen?_of_block (w := wr) (hb (w.heap.size + 1) (by omega))).trans (h.fr i))
  · have := h4.kept gs (.inr (by simpa [Value.ownBlock] using hg))
    rw [flat_snoc, List.length_append]
    exact this
  · have c : ∀ i, (w4.setCell ⟨w.heap.size + 1, 0, none⟩ (.slice (some ⟨g, 0, none⟩) (L.length + 1) cap)).cell? ⟨w.heap.size, i, none⟩ = wr.cell? ⟨w.heap.size, i, none⟩ := fun i => World.cell?_of_block (hbs w.heap.size (by omega))
    exact ⟨(c 0).trans h.bx.1, (c 1).trans h.bx.2.1, (c 2).trans h.bx.2.2⟩
  · exact ⟨(gs.os.trans (g4.os.trans ga.os)).trans h.kep.os, (gs.output.trans (g4.output.trans ga.output)).trans h.kep.output, by have := gs.size; have := h.kep.size; omega, fun k hk => (hbs k (by omega)).trans (h.kep.block k hk)⟩
set_option maxRecDepth 100000 in
set_option maxHeartbeats 4000000 in
theorem p_rem (w wr : World) (x0 x1 x2 u : Value) (L : List Bd) (x : Bd) (hr : AR w x0 x1 x2 L u wr) (hc : Hid (∀ w', Kep w.heap.size w w' → Calls Try.prog 35 #[x1, .int .u32 x.k] w' fun e w2 => e = .returned (.bool true) ∧ Kep w'.heap.size w' w2)) : Calls Try.prog 34 #[.agg #[.int .u32 x.k, .int .i32 x.r, .int .i32 x.ax, .int .i32 x.ay, .int .i32 x.m, .int .i32 x.o, .int .i32 x.px, .int .i32 x.py, .int .i32 x.vx, .int .i32 x.vy], .pointer (some ⟨w.heap.size, 0, none⟩), .pointer (some ⟨w.heap.size + 1, 0, none⟩)] wr fun e w2 => e = .returned (.tuple #[]) ∧ AR w x0 x1 x2 L u w2 := by
  have AW := Lib.hid (hr.keep (Kep.made wr (.cells #[.int .u32 x.k, .int .i32 x.r, .int .i32 x.ax, .int .i32 x.ay, .int .i32 x.m, .int .i32 x.o, .int .i32 x.px, .int .i32 x.py, .int .i32 x.vx, .int .i32 x.vy] 38)))
  have i1 := AW.out.bx.2.1
  have y0 : (wr.alloc (.cells #[.int .u32 x.k, .int .i32 x.r, .int .i32 x.ax, .int .i32 x.ay, .int .i32 x.m, .int .i32 x.o, .int .i32 x.px, .int .i32 x.py, .int .i32 x.vx, .int .i32 x.vy] 38)).cell? ⟨wr.heap.size, 0, none⟩ = some (.int .u32 x.k) := by rw [World.cell?_alloc_at _ _ _ _ rfl]; rfl
  clear hr
  go_enter Try.func34, Try.ntmps34
  go_wp2_with ((with_reducible refine (hc.out _ AW.out.kep).mono ?_); rintro e w5 ⟨rfl, k5⟩; have A5 := Lib.hid (AW.out.keep k5); clear k5)
  go_end0
  exact ⟨rfl, A5.out⟩
set_option maxRecDepth 100000 in
set_option maxHeartbeats 4000000 in
theorem p_add (w wr : World) (x0 x1 x2 u : Value) (L : List Bd) (x : Bd) (hr : AR w x0 x1 x2 L u wr) (hl : L.length ≤ 1000000) (hc : Hid (∀ w', Kep w.heap.size w w' → Calls Try.prog 35 #[x0, .int .u32 x.k] w' fun e w2 => e = .returned (.bool true) ∧ Kep w'.heap.size w' w2)) : Calls Try.prog 36 #[.agg #[.int .u32 x.k, .int .i32 x.r, .int .i32 x.ax, .int .i32 x.ay, .int .i32 x.m, .int .i32 x.o, .int .i32 x.px, .int .i32 x.py, .int .i32 x.vx, .int .i32 x.vy], .pointer (some ⟨w.heap.size, 0, none⟩), .pointer (some ⟨w.heap.size + 1, 0, none⟩)] wr fun e w2 => e = .returned (.tuple #[]) ∧ ∃ u', AR w x0 x1 x2 (L ++ [x]) u' w2 := by
  obtain ⟨i0, hi, hz0, hz1, hz2⟩ := info_parts info_body
  have HI := Lib.hid hi
  have AW := Lib.hid (hr.keep (Kep.made wr (.cells #[.int .u32 x.k, .int .i32 x.r, .int .i32 x.ax, .int .i32 x.ay, .int .i32 x.m, .int .i32 x.o, .int .i32 x.px, .int .i32 x.py, .int .i32 x.vx, .int .i32 x.vy] 38)))
  have i1 := AW.out.bx.1
  have y0 : (wr.alloc (.cells #[.int .u32 x.k, .int .i32 x.r, .int .i32 x.ax, .int .i32 x.ay, .int .i32 x.m, .int .i32 x.o, .int .i32 x.px, .int .i32 x.py, .int .i32 x.vx, .int .i32 x.vy] 38)).cell? ⟨wr.heap.size, 0, none⟩ = some (.int .u32 x.k) := by rw [World.cell?_alloc_at _ _ _ _ rfl]; rfl
  clear hr hi
  go_enter Try.func36, Try.ntmps36
  go_wp2_with (first
    | ((with_reducible refine (hc.out _ AW.out.kep).mono ?_); rintro e w5 ⟨rfl, k5⟩; have A5 := Lib.hid (AW.out.keep k5); have y0 := k5.all (show (wr.alloc (.cells #[.int .u32 x.k, .int .i32 x.r, .int .i32 x.ax, .int .i32 x.ay, .int .i32 x.m, .int .i32 x.o, .int .i32 x.px, .int .i32 x.py, .int .i32 x.vx, .int .i32 x.vy] 38)).cell? ⟨wr.heap.size, 0, none⟩ = some (.int .u32 x.k) by rw [World.cell?_alloc_at _ _ _ _ (by simp)]; rfl); have y1 := k5.all (show (wr.alloc (.cells #[.int .u32 x.k, .int .i32 x.r, .int .i32 x.ax, .int .i32 x.ay, .int .i32 x.m, .int .i32 x.o, .int .i32 x.px, .int .i32 x.py, .int .i32 x.vx, .int .i32 x.vy] 38)).cell? ⟨wr.heap.size, 1, none⟩ = some (.int .i32 x.r) by rw [World.cell?_alloc_at _ _ _ _ (by simp)]; rfl); have y2 := k5.all (show (wr.alloc (.cells #[.int .u32 x.k, .int .i32 x.r, .int .i32 x.ax, .int .i32 x.ay, .int .i32 x.m, .int .i32 x.o, .int .i32 x.px, .int .i32 x.py, .int .i32 x.vx, .int .i32 x.vy] 38)).cell? ⟨wr.heap.size, 2, none⟩ = some (.int .i32 x.ax) by rw [World.cell?_alloc_at _ _ _ _ (by simp)]; rfl); have y3 := k5.all (show (wr.alloc (.cells #[.int .u32 x.k, .int .i32 x.r, .int .i32 x.ax, .int .i32 x.ay, .int .i32 x.m, .int .i32 x.o, .int .i32 x.px, .int .i32 x.py, .int .i32 x.vx, .int .i32 x.vy] 38)).cell? ⟨wr.heap.size, 3, none⟩ = some (.int .i32 x.ay) by rw [World.cell?_alloc_at _ _ _ _ (by simp)]; rfl); have y4 := k5.all (show (wr.alloc (.cells #[.int .u32 x.k, .int .i32 x.r, .int .i32 x.ax, .int .i32 x.ay, .int .i32 x.m, .int .i32 x.o, .int .i32 x.px, .int .i32 x.py, .int .i32 x.vx, .int .i32 x.vy] 38)).cell? ⟨wr.heap.size, 4, none⟩ = some (.int .i32 x.m) by rw [World.cell?_alloc_at _ _ _ _ (by simp)]; rfl); have y5 := k5.all (show (wr.alloc (.cells #[.int .u32 x.k, .int .i32 x.r, .int .i32 x.ax, .int .i32 x.ay, .int .i32 x.m, .int .i32 x.o, .int .i32 x.px, .int .i32 x.py, .int .i32 x.vx, .int .i32 x.vy] 38)).cell? ⟨wr.heap.size, 5, none⟩ = some (.int .i32 x.o) by rw [World.cell?_alloc_at _ _ _ _ (by simp)]; rfl); have y6 := k5.all (show (wr.alloc (.cells #[.int .u32 x.k, .int .i32 x.r, .int .i32 x.ax, .int .i32 x.ay, .int .i32 x.m, .int .i32 x.o, .int .i32 x.px, .int .i32 x.py, .int .i32 x.vx, .int .i32 x.vy] 38)).cell? ⟨wr.heap.size, 6, none⟩ = some (.int .i32 x.px) by rw [World.cell?_alloc_at _ _ _ _ (by simp)]; rfl); have y7 := k5.all (show (wr.alloc (.cells #[.int .u32 x.k, .int .i32 x.r, .int .i32 x.ax, .int .i32 x.ay, .int .i32 x.m, .int .i32 x.o, .int .i32 x.px, .int .i32 x.py, .int .i32 x.vx, .int .i32 x.vy] 38)).cell? ⟨wr.heap.size, 7, none⟩ = some (.int .i32 x.py) by rw [World.cell?_alloc_at _ _ _ _ (by simp)]; rfl); have y8 := k5.all (show (wr.alloc (.cells #[.int .u32 x.k, .int .i32 x.r, .int .i32 x.ax, .int .i32 x.ay, .int .i32 x.m, .int .i32 x.o, .int .i32 x.px, .int .i32 x.py, .int .i32 x.vx, .int .i32 x.vy] 38)).cell? ⟨wr.heap.size, 8, none⟩ = some (.int .i32 x.vx) by rw [World.cell?_alloc_at _ _ _ _ (by simp)]; rfl); have y9 := k5.all (show (wr.alloc (.cells #[.int .u32 x.k, .int .i32 x.r, .int .i32 x.ax, .int .i32 x.ay, .int .i32 x.m, .int .i32 x.o, .int .i32 x.px, .int .i32 x.py, .int .i32 x.vx, .int .i32 x.vy] 38)).cell? ⟨wr.heap.size, 9, none⟩ = some (.int .i32 x.vy) by rw [World.cell?_alloc_at _ _ _ _ (by simp)]; rfl); have n3 := Lib.hid A5.out.ne; have AO := Lib.hid (fun o => A5.out.own.alloc (o := o)); have d1 := Lib.hid (fun o => A5.out.dcell o); have e1 := Lib.hid (fun o => A5.out.dfr o); have l5 := A5.out.lt; have c0 := A5.out.cell; clear k5)
    | (at_builtin; refine wpList_append_lies _ rfl _ _ 22 rfl (w.heap.size + 1 + 1) 38 i0 (.agg #[.int .u32 0, .int .i32 0, .int .i32 0, .int .i32 0, .int .i32 0, .int .i32 0, .int .i32 0, .int .i32 0, .int .i32 0, .int .i32 0]) 10 40 Try.underlying22 HI.out hz0 hz1 hz2 rfl (by decide) u L.length (flat L) rfl (AO.out _) ⟨_, 0, none⟩ 1 1 (vals x) rfl rfl (World.news_of_block (cs := #[Value.int .u32 x.k, Value.int .i32 x.r, Value.int .i32 x.ax, Value.int .i32 x.ay, Value.int .i32 x.m, Value.int .i32 x.o, Value.int .i32 x.px, Value.int .i32 x.py, Value.int .i32 x.vx, Value.int .i32 x.vy]) (t := 38) (fr := (0, 0)) (heap_at _ _ (by simp) _)) (one_cell x) (by decide) (by unfold maxLen; omega) (by omega) (by simp; omega) (w5.heap.size + 1) (by simp) ?_; intro g cap' w4 hown hgrow hat hlt; have d2 := hgrow.cell (d1.out _) n3.out; have e2 : w4.frozen? ⟨w.heap.size + 1, 0, none⟩ = false := (hgrow.frozen_far _ (World.block_lt_of_cell? _ _ (d1.out _)) n3.out).trans (e1.out _ 0); have l2 : w.heap.size + 1 < w4.heap.size := World.block_lt_of_cell? _ _ d2))
  go_end0
  exact ⟨rfl, _, A5.out.more (World.grownBy_alloc _ _ none) hown hgrow (hat.imp id (fun e => by rw [e]; simp))⟩
set_option maxRecDepth 100000 in
set_option maxHeartbeats 4000000 in
theorem p_same (w wr : World) (x0 x1 x2 u : Value) (L : List Bd) (x y : Bd) (hr : AR w x0 x1 x2 L u wr) (hl : L.length ≤ 1000000) (hc : Hid (∀ w', Kep w.heap.size w w' → Calls Try.prog 35 #[x2, .int .u32 x.k] w' fun e w2 => e = .returned (.bool false) ∧ Kep w'.heap.size w' w2)) : Calls Try.prog 37 #[.agg #[.int .u32 x.k, .int .i32 x.r, .int .i32 x.ax, .int .i32 x.ay, .int .i32 x.m, .int .i32 x.o, .int .i32 x.px, .int .i32 x.py, .int .i32 x.vx, .int .i32 x.vy], .agg #[.int .u32 y.k, .int .i32 y.r, .int .i32 y.ax, .int .i32 y.ay, .int .i32 y.m, .int .i32 y.o, .int .i32 y.px, .int .i32 y.py, .int .i32 y.vx, .int .i32 y.vy], .pointer (some ⟨w.heap.size, 0, none⟩), .pointer (some ⟨w.heap.size + 1, 0, none⟩)] wr fun e w2 => e = .returned (.tuple #[]) ∧ ∃ u', AR w x0 x1 x2 (L ++ [x]) u' w2 := by
  obtain ⟨i0, hi, hz0, hz1, hz2⟩ := info_parts info_body
  have HI := Lib.hid hi
  have AW := Lib.hid ((hr.keep (Kep.made wr (.cells #[.int .u32 x.k, .int .i32 x.r, .int .i32 x.ax, .int .i32 x.ay, .int .i32 x.m, .int .i32 x.o, .int .i32 x.px, .int .i32 x.py, .int .i32 x.vx, .int .i32 x.vy] 38))).keep (Kep.made _ (.cells #[.int .u32 y.k, .int .i32 y.r, .int .i32 y.ax, .int .i32 y.ay, .int .i32 y.m, .int .i32 y.o, .int .i32 y.px, .int .i32 y.py, .int .i32 y.vx, .int .i32 y.vy] 38)))
  have i1 := AW.out.bx.2.2
  have old : Hid (∀ (i : Nat) (v : Value), (wr.alloc (.cells #[.int .u32 x.k, .int .i32 x.r, .int .i32 x.ax, .int .i32 x.ay, .int .i32 x.m, .int .i32 x.o, .int .i32 x.px, .int .i32 x.py, .int .i32 x.vx, .int .i32 x.vy] 38)).cell? ⟨wr.heap.size, i, none⟩ = some v → ((wr.alloc (.cells #[.int .u32 x.k, .int .i32 x.r, .int .i32 x.ax, .int .i32 x.ay, .int .i32 x.m, .int .i32 x.o, .int .i32 x.px, .int .i32 x.py, .int .i32 x.vx, .int .i32 x.vy] 38)).alloc (.cells #[.int .u32 y.k, .int .i32 y.r, .int .i32 y.ax, .int .i32 y.ay, .int .i32 y.m, .int .i32 y.o, .int .i32 y.px, .int .i32 y.py, .int .i32 y.vx, .int .i32 y.vy] 38)).cell? ⟨wr.heap.size, i, none⟩ = some v) := Lib.hid (fun i v h => by rw [World.cell?_alloc_past _ _ _ (by simp)]; exact h)
  have y0 := old.out 0 (.int .u32 x.k) (by rw [World.cell?_alloc_at _ _ _ _ rfl]; rfl)
  clear hr hi
  go_enter Try.func37, Try.ntmps37
  go_wp2_with (first
    | ((with_reducible refine (hc.out _ AW.out.kep).mono ?_); rintro e w5 ⟨rfl, k5⟩; have A5 := Lib.hid (AW.out.keep k5); have y0 := k5.all (old.out 0 (.int .u32 x.k) (by rw [World.cell?_alloc_at _ _ _ _ rfl]; rfl)); have y1 := k5.all (old.out 1 (.int .i32 x.r) (by rw [World.cell?_alloc_at _ _ _ _ rfl]; rfl)); have y2 := k5.all (old.out 2 (.int .i32 x.ax) (by rw [World.cell?_alloc_at _ _ _ _ rfl]; rfl)); have y3 := k5.all (old.out 3 (.int .i32 x.ay) (by rw [World.cell?_alloc_at _ _ _ _ rfl]; rfl)); have y4 := k5.all (old.out 4 (.int .i32 x.m) (by rw [World.cell?_alloc_at _ _ _ _ rfl]; rfl)); have y5 := k5.all (old.out 5 (.int .i32 x.o) (by rw [World.cell?_alloc_at _ _ _ _ rfl]; rfl)); have y6 := k5.all (old.out 6 (.int .i32 x.px) (by rw [World.cell?_alloc_at _ _ _ _ rfl]; rfl)); have y7 := k5.all (old.out 7 (.int .i32 x.py) (by rw [World.cell?_alloc_at _ _ _ _ rfl]; rfl)); have y8 := k5.all (old.out 8 (.int .i32 x.vx) (by rw [World.cell?_alloc_at _ _ _ _ rfl]; rfl)); have y9 := k5.all (old.out 9 (.int .i32 x.vy) (by rw [World.cell?_alloc_at _ _ _ _ rfl]; rfl)); have n3 := Lib.hid A5.out.ne; have AO := Lib.hid (fun o => A5.out.own.alloc (o := o)); have d1 := Lib.hid (fun o => A5.out.dcell o); have e1 := Lib.hid (fun o => A5.out.dfr o); have l5 := A5.out.lt; have c0 := A5.out.cell; clear k5)
    | (at_builtin; refine wpList_append_lies _ rfl _ _ 22 rfl (w.heap.size + 1 + 1) 38 i0 (.agg #[.int .u32 0, .int .i32 0, .int .i32 0, .int .i32 0, .int .i32 0, .int .i32 0, .int .i32 0, .int .i32 0, .int .i32 0, .int .i32 0]) 10 40 Try.underlying22 HI.out hz0 hz1 hz2 rfl (by decide) u L.length (flat L) rfl (AO.out _) ⟨_, 0, none⟩ 1 1 (vals x) rfl rfl (World.news_of_block (cs := #[Value.int .u32 x.k, Value.int .i32 x.r, Value.int .i32 x.ax, Value.int .i32 x.ay, Value.int .i32 x.m, Value.int .i32 x.o, Value.int .i32 x.px, Value.int .i32 x.py, Value.int .i32 x.vx, Value.int .i32 x.vy]) (t := 38) (fr := (0, 0)) (heap_at _ _ (by simp) _)) (one_cell x) (by decide) (by unfold maxLen; omega) (by omega) (by simp; omega) (w5.heap.size + 1) (by simp) ?_; intro g cap' w4 hown hgrow hat hlt; have d2 := hgrow.cell (d1.out _) n3.out; have e2 : w4.frozen? ⟨w.heap.size + 1, 0, none⟩ = false := (hgrow.frozen_far _ (World.block_lt_of_cell? _ _ (d1.out _)) n3.out).trans (e1.out _ 0); have l2 : w.heap.size + 1 < w4.heap.size := World.block_lt_of_cell? _ _ d2))
  go_end0
  exact ⟨rfl, _, A5.out.more (World.grownBy_alloc _ _ none) hown hgrow (hat.imp id (fun e => by rw [e]; simp))⟩
theorem setc_is {W : World} (a b : Addr) (v : Value) (h : (W.cell? b).isSome = true) : ((W.setCell a v).cell? b).isSome = true := by
  by_cases c : a = b
  · subst c; rw [World.cell?_setCell_same' _ _ _ h]; rfl
  · rw [World.cell?_setCell_other (h := c)]; exact h
theorem setc_cell {W : World} {b : Nat} {v : Value} {i j : Nat} {u : Value} (h : W.cell? ⟨b, i, none⟩ = some u) (c : j ≠ i) : (W.setCell ⟨b, j, none⟩ v).cell? ⟨b, i, none⟩ = some u := by
  exact (World.cell?_setCell_other _ _ _ _ (fun e => c (by injection e))).trans h
/-- The first body's box holds the second body. -/
def Six (wr : World) (y : Bd) (_ : Value) (wx : World) : Prop := Kep wr.heap.size wr wx ∧ wx.cell? ⟨wr.heap.size, 0, none⟩ = some (.int .u32 y.k) ∧ wx.cell? ⟨wr.heap.size, 1, none⟩ = some (.int .i32 y.r) ∧ wx.cell? ⟨wr.heap.size, 2, none⟩ = some (.int .i32 y.ax) ∧ wx.cell? ⟨wr.heap.size, 3, none⟩ = some (.int .i32 y.ay) ∧ wx.cell? ⟨wr.heap.size, 4, none⟩ = some (.int .i32 y.m) ∧ wx.cell? ⟨wr.heap.size, 5, none⟩ = some (.int .i32 y.o) ∧ wx.cell? ⟨wr.heap.size, 6, none⟩ = some (.int .i32 y.px) ∧ wx.cell? ⟨wr.heap.size, 7, none⟩ = some (.int .i32 y.py) ∧ wx.cell? ⟨wr.heap.size, 8, none⟩ = some (.int .i32 y.vx) ∧ wx.cell? ⟨wr.heap.size, 9, none⟩ = some (.int .i32 y.vy)
theorem six_of {wr W : World} {x y : Bd} {s : Value} (hk : Kep wr.heap.size wr W) (h : W.cell? ⟨wr.heap.size, 0, none⟩ = some (.int .u32 x.k) ∧ W.cell? ⟨wr.heap.size, 1, none⟩ = some (.int .i32 x.r) ∧ W.cell? ⟨wr.heap.size, 2, none⟩ = some (.int .i32 x.ax) ∧ W.cell? ⟨wr.heap.size, 3, none⟩ = some (.int .i32 x.ay) ∧ W.cell? ⟨wr.heap.size, 4, none⟩ = some (.int .i32 x.m) ∧ W.cell? ⟨wr.heap.size, 5, none⟩ = some (.int .i32 x.o) ∧ W.cell? ⟨wr.heap.size, 6, none⟩ = some (.int .i32 x.px) ∧ W.cell? ⟨wr.heap.size, 7, none⟩ = some (.int .i32 x.py) ∧ W.cell? ⟨wr.heap.size, 8, none⟩ = some (.int .i32 x.vx) ∧ W.cell? ⟨wr.heap.size, 9, none⟩ = some (.int .i32 x.vy)) : Six wr y s ((((((((((W.setCell ⟨wr.heap.size, 0, none⟩ (.int .u32 y.k)).setCell ⟨wr.heap.size, 1, none⟩ (.int .i32 y.r)).setCell ⟨wr.heap.size, 2, none⟩ (.int .i32 y.ax)).setCell ⟨wr.heap.size, 3, none⟩ (.int .i32 y.ay)).setCell ⟨wr.heap.size, 4, none⟩ (.int .i32 y.m)).setCell ⟨wr.heap.size, 5, none⟩ (.int .i32 y.o)).setCell ⟨wr.heap.size, 6, none⟩ (.int .i32 y.px)).setCell ⟨wr.heap.size, 7, none⟩ (.int .i32 y.py)).setCell ⟨wr.heap.size, 8, none⟩ (.int .i32 y.vx)).setCell ⟨wr.heap.size, 9, none⟩ (.int .i32 y.vy)) := by
  obtain ⟨q0, q1, q2, q3, q4, q5, q6, q7, q8, q9⟩ := h
  exact ⟨(Kep.setCell (Kep.setCell (Kep.setCell (Kep.setCell (Kep.setCell (Kep.setCell (Kep.setCell (Kep.setCell (Kep.setCell (Kep.setCell hk (Nat.le_refl _) _) (Nat.le_refl _) _) (Nat.le_refl _) _) (Nat.le_refl _) _) (Nat.le_refl _) _) (Nat.le_refl _) _) (Nat.le_refl _) _) (Nat.le_refl _) _) (Nat.le_refl _) _) (Nat.le_refl _) _), setc_cell (setc_cell (setc_cell (setc_cell (setc_cell (setc_cell (setc_cell (setc_cell (setc_cell (World.cell?_setCell_same' _ _ _ (by rw [q0]; rfl)) (by decide)) (by decide)) (by decide)) (by decide)) (by decide)) (by decide)) (by decide)) (by decide)) (by decide), setc_cell (setc_cell (setc_cell (setc_cell (setc_cell (setc_cell (setc_cell (setc_cell (World.cell?_setCell_same' _ _ _ (setc_is _ _ _ (by rw [q1]; rfl))) (by decide)) (by decide)) (by decide)) (by decide)) (by decide)) (by decide)) (by decide)) (by decide), setc_cell (setc_cell (setc_cell (setc_cell (setc_cell (setc_cell (setc_cell (World.cell?_setCell_same' _ _ _ (setc_is _ _ _ (setc_is _ _ _ (by rw [q2]; rfl)))) (by decide)) (by decide)) (by decide)) (by decide)) (by decide)) (by decide)) (by decide), setc_cell (setc_cell (setc_cell (setc_cell (setc_cell (setc_cell (World.cell?_setCell_same' _ _ _ (setc_is _ _ _ (setc_is _ _ _ (setc_is _ _ _ (by rw [q3]; rfl))))) (by decide)) (by decide)) (by decide)) (by decide)) (by decide)) (by decide), setc_cell (setc_cell (setc_cell (setc_cell (setc_cell (World.cell?_setCell_same' _ _ _ (setc_is _ _ _ (setc_is _ _ _ (setc_is _ _ _ (setc_is _ _ _ (by rw [q4]; rfl)))))) (by decide)) (by decide)) (by decide)) (by decide)) (by decide), setc_cell (setc_cell (setc_cell (setc_cell (World.cell?_setCell_same' _ _ _ (setc_is _ _ _ (setc_is _ _ _ (setc_is _ _ _ (setc_is _ _ _ (setc_is _ _ _ (by rw [q5]; rfl))))))) (by decide)) (by decide)) (by decide)) (by decide), setc_cell (setc_cell (setc_cell (World.cell?_setCell_same' _ _ _ (setc_is _ _ _ (setc_is _ _ _ (setc_is _ _ _ (setc_is _ _ _ (setc_is _ _ _ (setc_is _ _ _ (by rw [q6]; rfl)))))))) (by decide)) (by decide)) (by decide), setc_cell (setc_cell (World.cell?_setCell_same' _ _ _ (setc_is _ _ _ (setc_is _ _ _ (setc_is _ _ _ (setc_is _ _ _ (setc_is _ _ _ (setc_is _ _ _ (setc_is _ _ _ (by rw [q7]; rfl))))))))) (by decide)) (by decide), setc_cell (World.cell?_setCell_same' _ _ _ (setc_is _ _ _ (setc_is _ _ _ (setc_is _ _ _ (setc_is _ _ _ (setc_is _ _ _ (setc_is _ _ _ (setc_is _ _ _ (setc_is _ _ _ (by rw [q8]; rfl)))))))))) (by decide), World.cell?_setCell_same' _ _ _ (setc_is _ _ _ (setc_is _ _ _ (setc_is _ _ _ (setc_is _ _ _ (setc_is _ _ _ (setc_is _ _ _ (setc_is _ _ _ (setc_is _ _ _ (setc_is _ _ _ (by rw [q9]; rfl))))))))))⟩
set_option maxRecDepth 100000 in
set_option maxHeartbeats 4000000 in
theorem p_chg (w wr : World) (x0 x1 x2 u : Value) (L : List Bd) (x y : Bd) (hr : AR w x0 x1 x2 L u wr) (hl : L.length ≤ 1000000) (hc : Hid (∀ w', Kep w.heap.size w w' → Calls Try.prog 35 #[x2, .int .u32 x.k] w' fun e w2 => e = .returned (.bool true) ∧ Kep w'.heap.size w' w2)) : Calls Try.prog 37 #[.agg #[.int .u32 x.k, .int .i32 x.r, .int .i32 x.ax, .int .i32 x.ay, .int .i32 x.m, .int .i32 x.o, .int .i32 x.px, .int .i32 x.py, .int .i32 x.vx, .int .i32 x.vy], .agg #[.int .u32 y.k, .int .i32 y.r, .int .i32 y.ax, .int .i32 y.ay, .int .i32 y.m, .int .i32 y.o, .int .i32 y.px, .int .i32 y.py, .int .i32 y.vx, .int .i32 y.vy], .pointer (some ⟨w.heap.size, 0, none⟩), .pointer (some ⟨w.heap.size + 1, 0, none⟩)] wr fun e w2 => e = .returned (.tuple #[]) ∧ ∃ u', AR w x0 x1 x2 (L ++ [y]) u' w2 := by
  obtain ⟨i0, hi, hz0, hz1, hz2⟩ := info_parts info_body
  have HI := Lib.hid hi
  have AW := Lib.hid ((hr.keep (Kep.made wr (.cells #[.int .u32 x.k, .int .i32 x.r, .int .i32 x.ax, .int .i32 x.ay, .int .i32 x.m, .int .i32 x.o, .int .i32 x.px, .int .i32 x.py, .int .i32 x.vx, .int .i32 x.vy] 38))).keep (Kep.made _ (.cells #[.int .u32 y.k, .int .i32 y.r, .int .i32 y.ax, .int .i32 y.ay, .int .i32 y.m, .int .i32 y.o, .int .i32 y.px, .int .i32 y.py, .int .i32 y.vx, .int .i32 y.vy] 38)))
  have HR := Lib.hid hr
  have KW := Lib.hid ((Kep.made wr (.cells #[.int .u32 x.k, .int .i32 x.r, .int .i32 x.ax, .int .i32 x.ay, .int .i32 x.m, .int .i32 x.o, .int .i32 x.px, .int .i32 x.py, .int .i32 x.vx, .int .i32 x.vy] 38)).next (Kep.made _ (.cells #[.int .u32 y.k, .int .i32 y.r, .int .i32 y.ax, .int .i32 y.ay, .int .i32 y.m, .int .i32 y.o, .int .i32 y.px, .int .i32 y.py, .int .i32 y.vx, .int .i32 y.vy] 38)))
  have i1 := AW.out.bx.2.2
  have old : Hid (∀ (i : Nat) (v : Value), (wr.alloc (.cells #[.int .u32 x.k, .int .i32 x.r, .int .i32 x.ax, .int .i32 x.ay, .int .i32 x.m, .int .i32 x.o, .int .i32 x.px, .int .i32 x.py, .int .i32 x.vx, .int .i32 x.vy] 38)).cell? ⟨wr.heap.size, i, none⟩ = some v → ((wr.alloc (.cells #[.int .u32 x.k, .int .i32 x.r, .int .i32 x.ax, .int .i32 x.ay, .int .i32 x.m, .int .i32 x.o, .int .i32 x.px, .int .i32 x.py, .int .i32 x.vx, .int .i32 x.vy] 38)).alloc (.cells #[.int .u32 y.k, .int .i32 y.r, .int .i32 y.ax, .int .i32 y.ay, .int .i32 y.m, .int .i32 y.o, .int .i32 y.px, .int .i32 y.py, .int .i32 y.vx, .int .i32 y.vy] 38)).cell? ⟨wr.heap.size, i, none⟩ = some v) := Lib.hid (fun i v h => by rw [World.cell?_alloc_past _ _ _ (by simp)]; exact h)
  have ofr : Hid (∀ i, ((wr.alloc (.cells #[.int .u32 x.k, .int .i32 x.r, .int .i32 x.ax, .int .i32 x.ay, .int .i32 x.m, .int .i32 x.o, .int .i32 x.px, .int .i32 x.py, .int .i32 x.vx, .int .i32 x.vy] 38)).alloc (.cells #[.int .u32 y.k, .int .i32 y.r, .int .i32 y.ax, .int .i32 y.ay, .int .i32 y.m, .int .i32 y.o, .int .i32 y.px, .int .i32 y.py, .int .i32 y.vx, .int .i32 y.vy] 38)).frozen? ⟨wr.heap.size, i, none⟩ = false) := Lib.hid (fun i => by rw [World.frozen?_alloc_past _ _ _ (by simp), World.frozen?_alloc_at _ _ _ _ rfl])
  have y0 := old.out 0 (.int .u32 x.k) (by rw [World.cell?_alloc_at _ _ _ _ rfl]; rfl)
  clear hr hi
  go_enter Try.func37, Try.ntmps37
  go_upto_if 10 with ((with_reducible refine (hc.out _ AW.out.kep).mono ?_); rintro e w5 ⟨rfl, k5⟩; have K5 := Lib.hid k5; have y0 := k5.all (old.out 0 (.int .u32 x.k) (by rw [World.cell?_alloc_at _ _ _ _ rfl]; rfl)); have y1 := k5.all (old.out 1 (.int .i32 x.r) (by rw [World.cell?_alloc_at _ _ _ _ rfl]; rfl)); have y2 := k5.all (old.out 2 (.int .i32 x.ax) (by rw [World.cell?_alloc_at _ _ _ _ rfl]; rfl)); have y3 := k5.all (old.out 3 (.int .i32 x.ay) (by rw [World.cell?_alloc_at _ _ _ _ rfl]; rfl)); have y4 := k5.all (old.out 4 (.int .i32 x.m) (by rw [World.cell?_alloc_at _ _ _ _ rfl]; rfl)); have y5 := k5.all (old.out 5 (.int .i32 x.o) (by rw [World.cell?_alloc_at _ _ _ _ rfl]; rfl)); have y6 := k5.all (old.out 6 (.int .i32 x.px) (by rw [World.cell?_alloc_at _ _ _ _ rfl]; rfl)); have y7 := k5.all (old.out 7 (.int .i32 x.py) (by rw [World.cell?_alloc_at _ _ _ _ rfl]; rfl)); have y8 := k5.all (old.out 8 (.int .i32 x.vx) (by rw [World.cell?_alloc_at _ _ _ _ rfl]; rfl)); have y9 := k5.all (old.out 9 (.int .i32 x.vy) (by rw [World.cell?_alloc_at _ _ _ _ rfl]; rfl)); have z0 := k5.all (show ((wr.alloc (.cells #[.int .u32 x.k, .int .i32 x.r, .int .i32 x.ax, .int .i32 x.ay, .int .i32 x.m, .int .i32 x.o, .int .i32 x.px, .int .i32 x.py, .int .i32 x.vx, .int .i32 x.vy] 38)).alloc (.cells #[.int .u32 y.k, .int .i32 y.r, .int .i32 y.ax, .int .i32 y.ay, .int .i32 y.m, .int .i32 y.o, .int .i32 y.px, .int .i32 y.py, .int .i32 y.vx, .int .i32 y.vy] 38)).cell? ⟨wr.heap.size + 1, 0, none⟩ = some (.int .u32 y.k) by rw [World.cell?_alloc_at _ _ _ _ (by simp)]; rfl); have z1 := k5.all (show ((wr.alloc (.cells #[.int .u32 x.k, .int .i32 x.r, .int .i32 x.ax, .int .i32 x.ay, .int .i32 x.m, .int .i32 x.o, .int .i32 x.px, .int .i32 x.py, .int .i32 x.vx, .int .i32 x.vy] 38)).alloc (.cells #[.int .u32 y.k, .int .i32 y.r, .int .i32 y.ax, .int .i32 y.ay, .int .i32 y.m, .int .i32 y.o, .int .i32 y.px, .int .i32 y.py, .int .i32 y.vx, .int .i32 y.vy] 38)).cell? ⟨wr.heap.size + 1, 1, none⟩ = some (.int .i32 y.r) by rw [World.cell?_alloc_at _ _ _ _ (by simp)]; rfl); have z2 := k5.all (show ((wr.alloc (.cells #[.int .u32 x.k, .int .i32 x.r, .int .i32 x.ax, .int .i32 x.ay, .int .i32 x.m, .int .i32 x.o, .int .i32 x.px, .int .i32 x.py, .int .i32 x.vx, .int .i32 x.vy] 38)).alloc (.cells #[.int .u32 y.k, .int .i32 y.r, .int .i32 y.ax, .int .i32 y.ay, .int .i32 y.m, .int .i32 y.o, .int .i32 y.px, .int .i32 y.py, .int .i32 y.vx, .int .i32 y.vy] 38)).cell? ⟨wr.heap.size + 1, 2, none⟩ = some (.int .i32 y.ax) by rw [World.cell?_alloc_at _ _ _ _ (by simp)]; rfl); have z3 := k5.all (show ((wr.alloc (.cells #[.int .u32 x.k, .int .i32 x.r, .int .i32 x.ax, .int .i32 x.ay, .int .i32 x.m, .int .i32 x.o, .int .i32 x.px, .int .i32 x.py, .int .i32 x.vx, .int .i32 x.vy] 38)).alloc (.cells #[.int .u32 y.k, .int .i32 y.r, .int .i32 y.ax, .int .i32 y.ay, .int .i32 y.m, .int .i32 y.o, .int .i32 y.px, .int .i32 y.py, .int .i32 y.vx, .int .i32 y.vy] 38)).cell? ⟨wr.heap.size + 1, 3, none⟩ = some (.int .i32 y.ay) by rw [World.cell?_alloc_at _ _ _ _ (by simp)]; rfl); have z4 := k5.all (show ((wr.alloc (.cells #[.int .u32 x.k, .int .i32 x.r, .int .i32 x.ax, .int .i32 x.ay, .int .i32 x.m, .int .i32 x.o, .int .i32 x.px, .int .i32 x.py, .int .i32 x.vx, .int .i32 x.vy] 38)).alloc (.cells #[.int .u32 y.k, .int .i32 y.r, .int .i32 y.ax, .int .i32 y.ay, .int .i32 y.m, .int .i32 y.o, .int .i32 y.px, .int .i32 y.py, .int .i32 y.vx, .int .i32 y.vy] 38)).cell? ⟨wr.heap.size + 1, 4, none⟩ = some (.int .i32 y.m) by rw [World.cell?_alloc_at _ _ _ _ (by simp)]; rfl); have z5 := k5.all (show ((wr.alloc (.cells #[.int .u32 x.k, .int .i32 x.r, .int .i32 x.ax, .int .i32 x.ay, .int .i32 x.m, .int .i32 x.o, .int .i32 x.px, .int .i32 x.py, .int .i32 x.vx, .int .i32 x.vy] 38)).alloc (.cells #[.int .u32 y.k, .int .i32 y.r, .int .i32 y.ax, .int .i32 y.ay, .int .i32 y.m, .int .i32 y.o, .int .i32 y.px, .int .i32 y.py, .int .i32 y.vx, .int .i32 y.vy] 38)).cell? ⟨wr.heap.size + 1, 5, none⟩ = some (.int .i32 y.o) by rw [World.cell?_alloc_at _ _ _ _ (by simp)]; rfl); have z6 := k5.all (show ((wr.alloc (.cells #[.int .u32 x.k, .int .i32 x.r, .int .i32 x.ax, .int .i32 x.ay, .int .i32 x.m, .int .i32 x.o, .int .i32 x.px, .int .i32 x.py, .int .i32 x.vx, .int .i32 x.vy] 38)).alloc (.cells #[.int .u32 y.k, .int .i32 y.r, .int .i32 y.ax, .int .i32 y.ay, .int .i32 y.m, .int .i32 y.o, .int .i32 y.px, .int .i32 y.py, .int .i32 y.vx, .int .i32 y.vy] 38)).cell? ⟨wr.heap.size + 1, 6, none⟩ = some (.int .i32 y.px) by rw [World.cell?_alloc_at _ _ _ _ (by simp)]; rfl); have z7 := k5.all (show ((wr.alloc (.cells #[.int .u32 x.k, .int .i32 x.r, .int .i32 x.ax, .int .i32 x.ay, .int .i32 x.m, .int .i32 x.o, .int .i32 x.px, .int .i32 x.py, .int .i32 x.vx, .int .i32 x.vy] 38)).alloc (.cells #[.int .u32 y.k, .int .i32 y.r, .int .i32 y.ax, .int .i32 y.ay, .int .i32 y.m, .int .i32 y.o, .int .i32 y.px, .int .i32 y.py, .int .i32 y.vx, .int .i32 y.vy] 38)).cell? ⟨wr.heap.size + 1, 7, none⟩ = some (.int .i32 y.py) by rw [World.cell?_alloc_at _ _ _ _ (by simp)]; rfl); have z8 := k5.all (show ((wr.alloc (.cells #[.int .u32 x.k, .int .i32 x.r, .int .i32 x.ax, .int .i32 x.ay, .int .i32 x.m, .int .i32 x.o, .int .i32 x.px, .int .i32 x.py, .int .i32 x.vx, .int .i32 x.vy] 38)).alloc (.cells #[.int .u32 y.k, .int .i32 y.r, .int .i32 y.ax, .int .i32 y.ay, .int .i32 y.m, .int .i32 y.o, .int .i32 y.px, .int .i32 y.py, .int .i32 y.vx, .int .i32 y.vy] 38)).cell? ⟨wr.heap.size + 1, 8, none⟩ = some (.int .i32 y.vx) by rw [World.cell?_alloc_at _ _ _ _ (by simp)]; rfl); have z9 := k5.all (show ((wr.alloc (.cells #[.int .u32 x.k, .int .i32 x.r, .int .i32 x.ax, .int .i32 x.ay, .int .i32 x.m, .int .i32 x.o, .int .i32 x.px, .int .i32 x.py, .int .i32 x.vx, .int .i32 x.vy] 38)).alloc (.cells #[.int .u32 y.k, .int .i32 y.r, .int .i32 y.ax, .int .i32 y.ay, .int .i32 y.m, .int .i32 y.o, .int .i32 y.px, .int .i32 y.py, .int .i32 y.vx, .int .i32 y.vy] 38)).cell? ⟨wr.heap.size + 1, 9, none⟩ = some (.int .i32 y.vy) by rw [World.cell?_alloc_at _ _ _ _ (by simp)]; rfl); have fz := fun i => (k5.frozen (p := ⟨wr.heap.size, i, none⟩) (by simp; omega)).trans (ofr.out i); clear k5)
  go_cut [11] (Six wr y)
  case first =>
    go_wp2_with fail
    go_meet
    exact six_of (KW.out.next K5.out) ⟨y0, y1, y2, y3, y4, y5, y6, y7, y8, y9⟩
  case rest =>
    obtain ⟨k6, y0, y1, y2, y3, y4, y5, y6, y7, y8, y9⟩ := hcut
    have A5 := Lib.hid (HR.out.keep k6)
    have n3 := Lib.hid A5.out.ne
    have AO := Lib.hid (fun o => A5.out.own.alloc (o := o))
    have d1 := Lib.hid (fun o => A5.out.dcell o)
    have e1 := Lib.hid (fun o => A5.out.dfr o)
    have l5 := A5.out.lt
    have c0 := A5.out.cell
    clear k6
    go_wp2_with (at_builtin; refine wpList_append_lies _ rfl _ _ 22 rfl (w.heap.size + 1 + 1) 38 i0 (.agg #[.int .u32 0, .int .i32 0, .int .i32 0, .int .i32 0, .int .i32 0, .int .i32 0, .int .i32 0, .int .i32 0, .int .i32 0, .int .i32 0]) 10 40 Try.underlying22 HI.out hz0 hz1 hz2 rfl (by decide) u L.length (flat L) rfl (AO.out _) ⟨_, 0, none⟩ 1 1 (vals y) rfl rfl (World.news_of_block (cs := #[Value.int .u32 y.k, Value.int .i32 y.r, Value.int .i32 y.ax, Value.int .i32 y.ay, Value.int .i32 y.m, Value.int .i32 y.o, Value.int .i32 y.px, Value.int .i32 y.py, Value.int .i32 y.vx, Value.int .i32 y.vy]) (t := 38) (fr := (0, 0)) (heap_at _ _ (by simp) _)) (one_cell y) (by decide) (by unfold maxLen; omega) (by omega) (by simp; omega) (wc.heap.size + 1) (by simp) ?_; intro g cap' w4 hown hgrow hat hlt; have d2 := hgrow.cell (d1.out _) n3.out; have e2 : w4.frozen? ⟨w.heap.size + 1, 0, none⟩ = false := (hgrow.frozen_far _ (World.block_lt_of_cell? _ _ (d1.out _)) n3.out).trans (e1.out _ 0); have l2 : w.heap.size + 1 < w4.heap.size := World.block_lt_of_cell? _ _ d2)
    go_end0
    exact ⟨rfl, _, A5.out.more (World.grownBy_alloc _ _ none) hown hgrow (hat.imp id (fun e => by rw [e]; simp))⟩
theorem mine_of {w : World} {B C : Nat} {v : Value} {s : List Bd} (h : w.ownsRow B 38 10 v s.length (flat s)) (hB : C ≤ B) : Mine w C v s := by
  refine ⟨own_lst h, fun g e => ⟨Nat.le_trans hB (h.lt g e).1, (h.lt g e).2, fun j => ?_⟩⟩
  have h1 := h
  rcases h.2 with ⟨rfl, _⟩ | ⟨g', cap, cur, rfl, _⟩
  · cases e
  · injection e with e
    subst e
    exact h1.frozenAt j
theorem in_filter {L : List Bd} {p : Bd → Bool} {x : Bd} {key : Int} (h : look L key = some x) (hL : Asc L) (hp : p x = true) : (look (L.filter p) key).isSome = true := by
  rw [look_filter p hL.once, h]; simp [Option.filter, hp]
theorem out_filter {L : List Bd} {p : Bd → Bool} {x : Bd} {key : Int} (h : look L key = some x) (hL : Asc L) (hp : p x = false) : (look (L.filter p) key).isSome = false := by
  rw [look_filter p hL.once, h]; simp [Option.filter, hp]
/-- What holds between two bodies that have been gone through. -/
def AI (w : World) (x0 x1 x2 : Value) (B : List Bd) (_ j : Nat) (wr : World) : Prop := ∃ u, AR w x0 x1 x2 (B.take j) u wr
theorem AR.begin (w : World) (x0 x1 x2 : Value) (t t' : TypeId) : AR w x0 x1 x2 [] (.slice none 0 0) ((w.alloc (.cells #[x0, x1, x2] t)).alloc (.cells #[.slice none 0 0] t')) := by
  refine ⟨?_, fun i => ?_, World.ownsRow_nil _ _ _ _, (Bx.made w x0 x1 x2 t).kep (Kep.made _ _), (Kep.made w _).next (Kep.made _ _)⟩
  · rw [World.cell?_alloc_at _ _ _ _ (by simp)]; rfl
  · rw [World.frozen?_alloc_at _ _ _ _ (by simp)]
theorem take_more {L : List Bd} {j : Nat} {y : Bd} (h : L[j]? = some y) : L.take j ++ [y] = L.take (j + 1) := by rw [List.take_add_one, h]; rfl
set_option maxRecDepth 100000 in
set_option maxHeartbeats 4000000 in
theorem papply_some (b1 b2 : Option Addr) (c1 c2 : Nat) (A B : List Bd) (x0 x1 x2 : Value) (w : World) (h1 : Lst w (.slice b1 A.length c1) A) (h2 : Lst w (.slice b2 B.length c2) B) (l1 : A.length ≤ 1000000) (l2 : B.length ≤ 1000000) (hA : Asc A) (hB : Asc B)
    (q0 : KLst w x0 (diffC A B).add) (q1 : KLst w x1 (diffC A B).rem) (q2 : KLst w x2 (diffC A B).chg) :
    Calls Try.prog 20 #[.slice b1 A.length c1, .slice b2 B.length c2, .agg #[x0, x1, x2]] w fun e w' => ∃ v', e = .returned v' ∧ Mine w' w.heap.size v' B ∧ Kep w.heap.size w w' := by
  have H0 : Hid (∀ key z, (look (B.filter fun x => (look A x.k).isNone) key).isSome = z → ∀ w', Kep w.heap.size w w' → Calls Try.prog 35 #[x0, .int .u32 key] w' fun e w2 => e = .returned (.bool z) ∧ Kep w'.heap.size w' w2) := Lib.hid fun key z hz w' k => contains_any x0 _ key w' (q0.kep k) (Nat.le_trans (List.length_filter_le _ _) l2) (asc_filter _ hB) z hz
  have H1 : Hid (∀ key z, (look (A.filter fun x => (look B x.k).isNone) key).isSome = z → ∀ w', Kep w.heap.size w w' → Calls Try.prog 35 #[x1, .int .u32 key] w' fun e w2 => e = .returned (.bool z) ∧ Kep w'.heap.size w' w2) := Lib.hid fun key z hz w' k => contains_any x1 _ key w' (q1.kep k) (Nat.le_trans (List.length_filter_le _ _) l1) (asc_filter _ hA) z hz
  have H2 : Hid (∀ key z, (look (A.filter (chgB B)) key).isSome = z → ∀ w', Kep w.heap.size w w' → Calls Try.prog 35 #[x2, .int .u32 key] w' fun e w2 => e = .returned (.bool z) ∧ Kep w'.heap.size w' w2) := Lib.hid fun key z hz w' k => contains_any x2 _ key w' (q2.kep k) (Nat.le_trans (List.length_filter_le _ _) l1) (asc_filter _ hA) z hz
  have lt : ∀ j, (B.take j).length ≤ 1000000 := fun j => by have := List.length_take_le' j B; omega
  have M := Lib.hid (fun w1 (h0 : AI w x0 x1 x2 B 0 0 w1) => merge_p A B b1 b2 c1 c2 w.heap.size (w.heap.size + 1) w w1 h1 h2 l1 l2 hA hB (AI w x0 x1 x2 B) (Lib.hid fun i j w' h => h.elim fun u h => h.kep) (Lib.hid fun i j w' n h => h.elim fun u h => ⟨u, h.keep ((Kep.refl _ _).drewN n)⟩)
    (Lib.hid fun i j x w' hx hn h => h.elim fun u h => (p_rem w w' x0 x1 x2 u _ x h (Lib.hid (H1.out x.k true (in_filter (look_mem hA.once (List.mem_of_getElem? hx)) hA (by rw [hn]; rfl))))).mono fun e w2 ⟨g1, g2⟩ => ⟨g1, u, g2⟩)
    (Lib.hid fun i j y w' hy hn h => h.elim fun u h => (p_add w w' x0 x1 x2 u _ y h (lt j) (Lib.hid (H0.out y.k true (in_filter (look_mem hB.once (List.mem_of_getElem? hy)) hB (by rw [hn]; rfl))))).mono fun e w2 ⟨g1, g2⟩ => ⟨g1, by rw [take_more hy] at g2; exact g2⟩)
    (Lib.hid fun i j x y w' hx hy hk hn h => h.elim fun u h => by
      have hm := look_mem hA.once (List.mem_of_getElem? hx)
      cases q : eqB y x with
      | true =>
        have := eqB_iff.1 q
        subst this
        exact (p_same w w' x0 x1 x2 u _ y y h (lt j) (Lib.hid (H2.out y.k false (out_filter hm hA (by rw [chg_some hn, q]; rfl))))).mono fun e w2 ⟨g1, g2⟩ => ⟨g1, by rw [take_more hy] at g2; exact g2⟩
      | false => exact (p_chg w w' x0 x1 x2 u _ x y h (lt j) (Lib.hid (H2.out x.k true (in_filter hm hA (by rw [chg_some hn, q]; rfl))))).mono fun e w2 ⟨g1, g2⟩ => ⟨g1, by rw [take_more hy] at g2; exact g2⟩)
    h0)
  have D0 : Hid (AI w x0 x1 x2 B 0 0 _) := Lib.hid ⟨_, AR.begin w x0 x1 x2 45 22⟩
  have HE : Hid (∀ w', AI w x0 x1 x2 B A.length B.length w' → ∃ u, AR w x0 x1 x2 B u w') := Lib.hid fun w' h => h.elim fun u h => ⟨u, by rw [List.take_length] at h; exact h⟩
  have hmf : ∀ (fn : Fn) (first cap : Array Value) (w : World), (Instr.makeFunc fn first cap).run Try.prog w = .ok (.func fn first cap) w := fun _ _ _ _ => rfl
  generalize A.length = n1 at *
  generalize B.length = n2 at *
  clear h1 h2 l1 l2 hA hB q0 q1 q2 H0 H1 H2 lt
  go_enter Try.func20, Try.ntmps20
  go_wp2_with ((with_reducible refine (M.out _ D0.out).mono ?_); rintro e w5 ⟨rfl, h5⟩; obtain ⟨u, h6⟩ := HE.out _ h5; have H6 := Lib.hid h6; have c0 := h6.cell; clear h5 h6 M HE D0)
  go_ret
  exact ⟨u, rfl, mine_of H6.out.own (by omega), H6.out.kep⟩
theorem papply_any : VApply := fun v1 v2 v3 L M w h1 h2 h3 _ _ m1 m2 hA hB => by
  obtain ⟨b1, c1, rfl⟩ := h1.shape
  obtain ⟨b2, c2, rfl⟩ := h2.shape
  obtain ⟨x0, x1, x2, rfl, q0, q1, q2⟩ := h3
  exact papply_some b1 b2 c1 c2 L M x0 x1 x2 w h1 h2 m1 m2 hA hB q0 q1 q2
end Go.Proofs.Ytlfbiijillpnnaa
