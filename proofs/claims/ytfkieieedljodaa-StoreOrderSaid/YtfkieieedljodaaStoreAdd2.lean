/-
  Package store: Add, the first body.
-/
import Derived.Test.YtfkieieedljodaaStoreAdd
namespace Go.Proofs.Ytfkieieedljodaa
open Go.RowKit Go.Lib Go.Maps

/-- A map made for a store. -/
theorem SI.made {w : World} {sb : Nat} {S : Nat → Prop} {m : List Bd} {v : Value} {D : List Bd} (h : SI w sb S m v none D) : SI ((w.setCell ⟨sb, 1, none⟩ (.map (some w.heap.size))).alloc (.map #[] 0)) sb (fun k => S k ∨ k = w.heap.size) m v (some w.heap.size) D ∧ But S w ((w.setCell ⟨sb, 1, none⟩ (.map (some w.heap.size))).alloc (.map #[] 0)) ∧ D = [] := by
  have hD : D = [] := by
    rcases h.idx with ⟨_, q⟩ | ⟨_, _, q, _⟩
    · exact q
    · cases q
  subst hD
  have gs := by_setCell w sb 1 (.map (some w.heap.size))
  have ga := World.grownBy_alloc (w.setCell ⟨sb, 1, none⟩ (.map (some w.heap.size))) (.map #[] 0) none
  have sz : (w.setCell ⟨sb, 1, none⟩ (.map (some w.heap.size))).heap.size = w.heap.size := by simp
  have hsb := h.lt sb h.ssb
  have e1 : (w.setCell ⟨sb, 1, none⟩ (.map (some w.heap.size))).cell? ⟨sb, 0, none⟩ = some v := by rw [World.cell?_setCell_other (h := by simp)]; exact h.c0
  have e2 : (w.setCell ⟨sb, 1, none⟩ (.map (some w.heap.size))).cell? ⟨sb, 1, none⟩ = some (.map (some w.heap.size)) := World.cell?_setCell_same' _ _ _ (by rw [h.c1]; rfl)
  have fz : ∀ o, (w.setCell ⟨sb, 1, none⟩ (.map (some w.heap.size))).frozen? ⟨sb, o, none⟩ = w.frozen? ⟨sb, o, none⟩ := fun o => World.frozen?_setCell _ _ _ _
  have mm := World.ownsMap_made (H := Unit) (w.setCell ⟨sb, 1, none⟩ (.map (some w.heap.size))) Try.prog 28 (plainElem Try.prog 3)
  rw [sz] at mm
  refine ⟨⟨ga.cell e1 (by simp), ga.cell e2 (by simp), ?_, ?_, .inl h.ssb, (h.own.kept gs (.inr fun e => (h.sv sb e).2 rfl)).alloc _, fun g e => ⟨.inl (h.sv g e).1, (h.sv g e).2⟩, .inr ⟨w.heap.size, _, rfl, mm, idx_nil⟩, fun k e => .inr (by injection e with e; exact e.symm), fun k q => ?_, h.perm, h.asc, h.fits, h.len⟩, ?_, rfl⟩
  · rw [ga.frozen_far _ (by rw [sz]; exact hsb) (by simp), fz]; exact h.f0
  · rw [ga.frozen_far _ (by rw [sz]; exact hsb) (by simp), fz]; exact h.f1
  · have : ((w.setCell ⟨sb, 1, none⟩ (.map (some w.heap.size))).alloc (.map #[] 0)).heap.size = w.heap.size + 1 := by simp
    rw [this]
    rcases q with q | rfl
    · have := h.lt k q; omega
    · omega
  · refine ⟨rfl, rfl, by simp, fun k hk hn => (ga.block k (by rw [sz]; exact hk) (by simp)).trans (gs.block k hk (fun q => hn (by injection q with q; rw [q]; exact h.ssb)))⟩
set_option maxRecDepth 100000 in
set_option maxHeartbeats 1000000 in
theorem add_first {w : World} {sb : Nat} {S : Nat → Prop} {m : List Bd} {v : Value} {D : List Bd} (h : SI w sb S m v none D) (b : Bd) (hb : Fits b) (e : chkB b = 0) (e2 : look m b.k = none) (e3 : m.length < 4096) :
    Calls Try.prog 9 #[Value.pointer (some ⟨sb, 0, none⟩), Value.agg #[Value.int .u32 b.k, Value.int .i32 b.r, Value.int .i32 b.ax, Value.int .i32 b.ay, Value.int .i32 b.m, Value.int .i32 b.o, Value.int .i32 b.px, Value.int .i32 b.py, Value.int .i32 b.vx, Value.int .i32 b.vy]] w (Done w sb S 0 (put m b false)) := by
  have C := Lib.hid (chk_of b.k (show chkB b = 0 from e))
  obtain ⟨base, cap, rfl⟩ := h.shape
  have hlen : (D.length : Int) < 4096 := by rw [h.length]; omega
  have H : Hid (∀ o w', Grown (w.alloc o) w' → SI w' sb S m (.slice base D.length cap) none D) := Lib.hid (fun o w' (g : Grown (w.alloc o) w') => (h.alloc o).grown g)
  have E2 := Lib.hid e2
  have HB := Lib.hid hb
  have HL := Lib.hid h.lt
  clear h e e2 hb e3
  have hq := fun w => run_eql_map_nil_sl (P := Try.prog) w 25 _ _ none Try.underlying25
  have hmm := @run_makeMap Try.prog
  go_enter Try.func9, Try.ntmps9
  go_wp2_with ((with_reducible refine (C.out _).mono ?_); rintro e w1 ⟨rfl, g1⟩; have y0 : w1.cell? ⟨w.heap.size, 0, none⟩ = some (Value.int .u32 b.k) := kept_cell g1 (by rw [World.cell?_alloc_at _ _ _ _ rfl]; rfl); have y1 : w1.cell? ⟨w.heap.size, 1, none⟩ = some (Value.int .i32 b.r) := kept_cell g1 (by rw [World.cell?_alloc_at _ _ _ _ rfl]; rfl); have y2 : w1.cell? ⟨w.heap.size, 2, none⟩ = some (Value.int .i32 b.ax) := kept_cell g1 (by rw [World.cell?_alloc_at _ _ _ _ rfl]; rfl); have y3 : w1.cell? ⟨w.heap.size, 3, none⟩ = some (Value.int .i32 b.ay) := kept_cell g1 (by rw [World.cell?_alloc_at _ _ _ _ rfl]; rfl); have y4 : w1.cell? ⟨w.heap.size, 4, none⟩ = some (Value.int .i32 b.m) := kept_cell g1 (by rw [World.cell?_alloc_at _ _ _ _ rfl]; rfl); have y5 : w1.cell? ⟨w.heap.size, 5, none⟩ = some (Value.int .i32 b.o) := kept_cell g1 (by rw [World.cell?_alloc_at _ _ _ _ rfl]; rfl); have y6 : w1.cell? ⟨w.heap.size, 6, none⟩ = some (Value.int .i32 b.px) := kept_cell g1 (by rw [World.cell?_alloc_at _ _ _ _ rfl]; rfl); have y7 : w1.cell? ⟨w.heap.size, 7, none⟩ = some (Value.int .i32 b.py) := kept_cell g1 (by rw [World.cell?_alloc_at _ _ _ _ rfl]; rfl); have y8 : w1.cell? ⟨w.heap.size, 8, none⟩ = some (Value.int .i32 b.vx) := kept_cell g1 (by rw [World.cell?_alloc_at _ _ _ _ rfl]; rfl); have y9 : w1.cell? ⟨w.heap.size, 9, none⟩ = some (Value.int .i32 b.vy) := kept_cell g1 (by rw [World.cell?_alloc_at _ _ _ _ rfl]; rfl); have HS := Lib.hid (H.out _ _ g1); have c0 := HS.out.c0; have c1 := HS.out.c1; have f1 := HS.out.f1; have l9 := HS.out.lt _ HS.out.ssb; have hr := fun n => (HS.out.drewN n).look_no (wf_u32 HB.out) E2.out)
  go_quiet (fail)
  generalize hwq : World.drewN w1 _ = wq
  have HQ : Hid (SI wq sb S m (.slice base D.length cap) none D) := Lib.hid (by rw [← hwq]; exact HS.out.drewN _)
  replace c0 := HQ.out.c0
  replace c1 := HQ.out.c1
  replace f1 := HQ.out.f1
  replace l9 := HQ.out.lt _ HQ.out.ssb
  replace y0 : wq.cell? ⟨w.heap.size, 0, none⟩ = some (Value.int .u32 b.k) := by rw [← hwq]; exact y0
  replace y1 : wq.cell? ⟨w.heap.size, 1, none⟩ = some (Value.int .i32 b.r) := by rw [← hwq]; exact y1
  replace y2 : wq.cell? ⟨w.heap.size, 2, none⟩ = some (Value.int .i32 b.ax) := by rw [← hwq]; exact y2
  replace y3 : wq.cell? ⟨w.heap.size, 3, none⟩ = some (Value.int .i32 b.ay) := by rw [← hwq]; exact y3
  replace y4 : wq.cell? ⟨w.heap.size, 4, none⟩ = some (Value.int .i32 b.m) := by rw [← hwq]; exact y4
  replace y5 : wq.cell? ⟨w.heap.size, 5, none⟩ = some (Value.int .i32 b.o) := by rw [← hwq]; exact y5
  replace y6 : wq.cell? ⟨w.heap.size, 6, none⟩ = some (Value.int .i32 b.px) := by rw [← hwq]; exact y6
  replace y7 : wq.cell? ⟨w.heap.size, 7, none⟩ = some (Value.int .i32 b.py) := by rw [← hwq]; exact y7
  replace y8 : wq.cell? ⟨w.heap.size, 8, none⟩ = some (Value.int .i32 b.vx) := by rw [← hwq]; exact y8
  replace y9 : wq.cell? ⟨w.heap.size, 9, none⟩ = some (Value.int .i32 b.vy) := by rw [← hwq]; exact y9
  have GK0 : Hid (But S w wq) := Lib.hid (by rw [← hwq]; exact But.of_kep ((Kep.alloc (Kep.refl _ _) (Nat.le_refl _) _).trans (((Kep.of_grown g1).mono (by simp)).drewN _)))
  clear hwq HS g1 H C hr
  go_wp2
  obtain ⟨Z0, B0, hD⟩ := HQ.out.made
  have l2 : w.heap.size < wq.heap.size := World.block_lt_of_cell? _ _ y0
  have n9 : sb ≠ w.heap.size := fun e => by have := HL.out _ HQ.out.ssb; omega
  replace y0 : ((wq.setCell ⟨sb, 1, none⟩ (.map (some wq.heap.size))).alloc (.map #[] 0)).cell? ⟨w.heap.size, 0, none⟩ = some (Value.int .u32 b.k) := by rw [World.cell?_alloc_past _ _ _ (by simpa using l2)]; exact setc_far y0 n9
  replace y1 : ((wq.setCell ⟨sb, 1, none⟩ (.map (some wq.heap.size))).alloc (.map #[] 0)).cell? ⟨w.heap.size, 1, none⟩ = some (Value.int .i32 b.r) := by rw [World.cell?_alloc_past _ _ _ (by simpa using l2)]; exact setc_far y1 n9
  replace y2 : ((wq.setCell ⟨sb, 1, none⟩ (.map (some wq.heap.size))).alloc (.map #[] 0)).cell? ⟨w.heap.size, 2, none⟩ = some (Value.int .i32 b.ax) := by rw [World.cell?_alloc_past _ _ _ (by simpa using l2)]; exact setc_far y2 n9
  replace y3 : ((wq.setCell ⟨sb, 1, none⟩ (.map (some wq.heap.size))).alloc (.map #[] 0)).cell? ⟨w.heap.size, 3, none⟩ = some (Value.int .i32 b.ay) := by rw [World.cell?_alloc_past _ _ _ (by simpa using l2)]; exact setc_far y3 n9
  replace y4 : ((wq.setCell ⟨sb, 1, none⟩ (.map (some wq.heap.size))).alloc (.map #[] 0)).cell? ⟨w.heap.size, 4, none⟩ = some (Value.int .i32 b.m) := by rw [World.cell?_alloc_past _ _ _ (by simpa using l2)]; exact setc_far y4 n9
  replace y5 : ((wq.setCell ⟨sb, 1, none⟩ (.map (some wq.heap.size))).alloc (.map #[] 0)).cell? ⟨w.heap.size, 5, none⟩ = some (Value.int .i32 b.o) := by rw [World.cell?_alloc_past _ _ _ (by simpa using l2)]; exact setc_far y5 n9
  replace y6 : ((wq.setCell ⟨sb, 1, none⟩ (.map (some wq.heap.size))).alloc (.map #[] 0)).cell? ⟨w.heap.size, 6, none⟩ = some (Value.int .i32 b.px) := by rw [World.cell?_alloc_past _ _ _ (by simpa using l2)]; exact setc_far y6 n9
  replace y7 : ((wq.setCell ⟨sb, 1, none⟩ (.map (some wq.heap.size))).alloc (.map #[] 0)).cell? ⟨w.heap.size, 7, none⟩ = some (Value.int .i32 b.py) := by rw [World.cell?_alloc_past _ _ _ (by simpa using l2)]; exact setc_far y7 n9
  replace y8 : ((wq.setCell ⟨sb, 1, none⟩ (.map (some wq.heap.size))).alloc (.map #[] 0)).cell? ⟨w.heap.size, 8, none⟩ = some (Value.int .i32 b.vx) := by rw [World.cell?_alloc_past _ _ _ (by simpa using l2)]; exact setc_far y8 n9
  replace y9 : ((wq.setCell ⟨sb, 1, none⟩ (.map (some wq.heap.size))).alloc (.map #[] 0)).cell? ⟨w.heap.size, 9, none⟩ = some (Value.int .i32 b.vy) := by rw [World.cell?_alloc_past _ _ _ (by simpa using l2)]; exact setc_far y9 n9
  have GK : Hid (But S w ((wq.setCell ⟨sb, 1, none⟩ (.map (some wq.heap.size))).alloc (.map #[] 0))) := Lib.hid (GK0.out.trans (B0.wider fun k q => .inl q))
  have L2 := Lib.hid l2
  clear B0 l2 l9 c0 c1 f1 n9 hq hmm HQ GK0
  generalize (wq.setCell ⟨sb, 1, none⟩ (.map (some wq.heap.size))).alloc (.map #[] 0) = wz at Z0 GK y0 y1 y2 y3 y4 y5 y6 y7 y8 y9 ⊢
  generalize wq.heap.size = mb at Z0 L2 ⊢
  have Z := Lib.hid Z0
  rcases Z0.idx with ⟨q, _⟩ | ⟨mb', Dm, hmb, ho, ix⟩
  · cases q
  injection hmb with hmb
  subst hmb
  have HO := Lib.hid ho
  have IX := Lib.hid ix
  have c0 := Z0.c0
  have c1 := Z0.c1
  have HM : Hid (∀ k, (S k ∨ k = mb) → More S w wz k) := Lib.hid fun k q => by
    rcases q with q | rfl
    · exact .inl q
    · exact .inr ⟨by have := L2.out; omega, Z.out.lt _ (.inr rfl)⟩
  have HT : Hid (∀ k, (S k ∨ k = mb) → k ≠ w.heap.size) := Lib.hid fun k q => by
    rcases q with q | rfl
    · have := HL.out k q; omega
    · have := L2.out; omega
  clear ho ix Z0 hD
  go_still_tail 11, (by kernel_rfl)
  go_wp2_with (at_mapUpdate; refine wpList_mapUpdate_own _ rfl _ _ _ 25 rfl 28 3 law Try.underlying25 (plainElem Try.prog 3) mb D.length Dm (by rfl) HO.out (by unfold maxLen; omega) _ _ (.int .u32 b.k) (by rfl) (by rfl) (keyOf_int_mk Try.underlying28 (wf_u32 HB.out)) (.lit (.int .i64 D.length)) [] (plainElem_int Try.underlying3 (WalkArith.wf_i64 (by omega))) ?_; intro w3 h3 g3)
  have G3 : Hid (wz.grownBy w3 (some mb)) := Lib.hid ⟨g3.os, g3.tape, g3.output, g3.size, g3.block⟩
  have H3 := Lib.hid h3
  have n1 : sb ≠ mb := cell_map c0 HO.out
  have n2 : w.heap.size ≠ mb := cell_map y0 HO.out
  have n3 : some sb ≠ (Value.slice base D.length cap).ownBlock := fun e => (Z.out.sv sb e.symm).2 rfl
  have n4 : some w.heap.size ≠ (Value.slice base D.length cap).ownBlock := fun e => HT.out _ (Z.out.sv _ e.symm).1 rfl
  have n5 : sb ≠ w.heap.size := HT.out _ Z.out.ssb
  have n6 : some mb ≠ (Value.slice base D.length cap).ownBlock := fun e => row_map Z.out.own HO.out e.symm rfl
  have d0 := G3.out.cell c0 (by simpa using n1)
  have own3 := Z.out.own.kept G3.out (.inr fun e => n6 e.symm)
  have e0 : w3.frozen? ⟨sb, 0, none⟩ = false := by rw [G3.out.frozen_far _ (Z.out.lt _ Z.out.ssb) (by simpa using n1)]; exact Z.out.f0
  have l0 : sb < w3.heap.size := World.block_lt_of_cell? _ _ d0
  have z0 := G3.out.cell y0 (by simpa using n2)
  have z1 := G3.out.cell y1 (by simpa using n2)
  have z2 := G3.out.cell y2 (by simpa using n2)
  have z3 := G3.out.cell y3 (by simpa using n2)
  have z4 := G3.out.cell y4 (by simpa using n2)
  have z5 := G3.out.cell y5 (by simpa using n2)
  have z6 := G3.out.cell y6 (by simpa using n2)
  have z7 := G3.out.cell y7 (by simpa using n2)
  have z8 := G3.out.cell y8 (by simpa using n2)
  have z9 := G3.out.cell y9 (by simpa using n2)
  have l1 : w.heap.size < w3.heap.size := World.block_lt_of_cell? _ _ z0
  have a0 : ∀ o, (w3.alloc o).drew.cell? ⟨w.heap.size, 0, none⟩ = some (Value.int .u32 b.k) := fun o => by rw [World.cell?_drew, World.cell?_alloc_past _ _ _ l1]; exact z0
  have a1 : ∀ o, (w3.alloc o).drew.cell? ⟨w.heap.size, 1, none⟩ = some (Value.int .i32 b.r) := fun o => by rw [World.cell?_drew, World.cell?_alloc_past _ _ _ l1]; exact z1
  have a2 : ∀ o, (w3.alloc o).drew.cell? ⟨w.heap.size, 2, none⟩ = some (Value.int .i32 b.ax) := fun o => by rw [World.cell?_drew, World.cell?_alloc_past _ _ _ l1]; exact z2
  have a3 : ∀ o, (w3.alloc o).drew.cell? ⟨w.heap.size, 3, none⟩ = some (Value.int .i32 b.ay) := fun o => by rw [World.cell?_drew, World.cell?_alloc_past _ _ _ l1]; exact z3
  have a4 : ∀ o, (w3.alloc o).drew.cell? ⟨w.heap.size, 4, none⟩ = some (Value.int .i32 b.m) := fun o => by rw [World.cell?_drew, World.cell?_alloc_past _ _ _ l1]; exact z4
  have a5 : ∀ o, (w3.alloc o).drew.cell? ⟨w.heap.size, 5, none⟩ = some (Value.int .i32 b.o) := fun o => by rw [World.cell?_drew, World.cell?_alloc_past _ _ _ l1]; exact z5
  have a6 : ∀ o, (w3.alloc o).drew.cell? ⟨w.heap.size, 6, none⟩ = some (Value.int .i32 b.px) := fun o => by rw [World.cell?_drew, World.cell?_alloc_past _ _ _ l1]; exact z6
  have a7 : ∀ o, (w3.alloc o).drew.cell? ⟨w.heap.size, 7, none⟩ = some (Value.int .i32 b.py) := fun o => by rw [World.cell?_drew, World.cell?_alloc_past _ _ _ l1]; exact z7
  have a8 : ∀ o, (w3.alloc o).drew.cell? ⟨w.heap.size, 8, none⟩ = some (Value.int .i32 b.vx) := fun o => by rw [World.cell?_drew, World.cell?_alloc_past _ _ _ l1]; exact z8
  have a9 : ∀ o, (w3.alloc o).drew.cell? ⟨w.heap.size, 9, none⟩ = some (Value.int .i32 b.vy) := fun o => by rw [World.cell?_drew, World.cell?_alloc_past _ _ _ l1]; exact z9
  have d1 : ∀ o, (w3.alloc o).drew.cell? ⟨sb, 0, none⟩ = some (.slice base D.length cap) := fun o => by rw [World.cell?_drew, World.cell?_alloc_past _ _ _ l0]; exact d0
  have e1 : ∀ o, (w3.alloc o).drew.frozen? ⟨sb, 0, none⟩ = false := fun o => by rw [World.frozen?_drew, World.frozen?_alloc_past _ _ _ l0]; exact e0
  have AO : ∀ o, ((w3.alloc o).drew).ownsRow 0 32 10 (.slice base D.length cap) D.length (flat D) := fun o => own3.alloc o
  have GA : Hid (∀ o, w3.grownBy (w3.alloc o).drew none) := Lib.hid (fun o => have g := World.grownBy_alloc w3 o none; ⟨g.os, g.tape, g.output, g.size, g.block⟩)
  obtain ⟨i0, hi, hz0, hz1, hz2⟩ := info_parts info_body
  clear g3 h3 c0 c1 y0 y1 y2 y3 y4 y5 y6 y7 y8 y9
  replace AO := Lib.hid AO
  replace own3 := Lib.hid own3
  replace hi := Lib.hid hi
  go_region_law ((refine step_append_lies _ (by rfl) _ _ 24 (by rfl) 0 32 i0 (.agg #[.int .u32 0, .int .i32 0, .int .i32 0, .int .i32 0, .int .i32 0, .int .i32 0, .int .i32 0, .int .i32 0, .int .i32 0, .int .i32 0]) 10 40 Try.underlying24 hi.out hz0 hz1 hz2 rfl (by decide) (.slice base D.length cap) D.length (flat D) (by rfl) (AO.out _) ⟨w3.heap.size, 0, none⟩ 1 1 (vals b) (by rfl) (by rfl) (World.news_of_block (cs := #[Value.int .u32 b.k, Value.int .i32 b.r, Value.int .i32 b.ax, Value.int .i32 b.ay, Value.int .i32 b.m, Value.int .i32 b.o, Value.int .i32 b.px, Value.int .i32 b.py, Value.int .i32 b.vx, Value.int .i32 b.vy]) (t := 32) (fr := (0, 0)) (heap_alloc_new w3 _)) (one_cell b) (by decide) (by unfold maxLen; omega) (by omega) (by simp) (w3.heap.size + 1) (by simp) ?_; intro g cap' w4 hown hgrow hat hlt; have d2 := hgrow.cell (d1 _) n3; have e2 : w4.frozen? ⟨sb, 0, none⟩ = false := (hgrow.frozen_far _ (World.block_lt_of_cell? _ _ (d1 _)) n3).trans (e1 _)))
  all_goals go_wp2
  all_goals go_ret
  all_goals (have Q := SI.added Z.out HO.out IX.out E2.out HB.out (by omega) H3.out G3.out (GA.out _) hown hgrow (hat.imp id (fun e => by rw [e]; simp)) hlt)
  all_goals exact done_add Q.1 Q.2 GK.out HM.out (by simp) (Nat.le_trans G3.out.size (Nat.le_trans (GA.out _).size hgrow.size)) HL.out

theorem add_any {w : World} {sb : Nat} {S : Nat → Prop} {m : List Bd} (h : StoreIs w sb S m) (b : Bd) (hb : Fits b) :
    Calls Try.prog 9 #[Value.pointer (some ⟨sb, 0, none⟩), Value.agg #[Value.int .u32 b.k, Value.int .i32 b.r, Value.int .i32 b.ax, Value.int .i32 b.ay, Value.int .i32 b.m, Value.int .i32 b.o, Value.int .i32 b.px, Value.int .i32 b.py, Value.int .i32 b.vx, Value.int .i32 b.vy]] w (Done w sb S (addE m b) (addL m b)) := by
  unfold addE addL
  by_cases c1 : chkB b = 0
  · have d1 : ¬ (chkB b ≠ 0) := fun q => q c1
    rw [if_neg d1, if_neg d1]
    by_cases c2 : look m b.k = none
    · have d2 : ¬ (look m b.k ≠ none) := fun q => q c2
      rw [if_neg d2, if_neg d2]
      by_cases c3 : 4096 ≤ m.length
      · rw [if_pos c3, if_pos c3]; exact add_full h b hb c1 c2 c3
      · rw [if_neg c3, if_neg c3]
        obtain ⟨v, mp, D, h⟩ := h
        cases mp with
        | none => exact add_first h b hb c1 c2 (by omega)
        | some mb => exact add_some h b hb c1 c2 (by omega)
    · rw [if_pos c2, if_pos c2]
      obtain ⟨x, hx⟩ := Option.ne_none_iff_exists'.1 c2
      exact add_dup h b hb c1 hx
  · rw [if_pos c1, if_pos c1]; exact add_bad h b rfl c1
theorem set_any {w : World} {sb : Nat} {S : Nat → Prop} {m : List Bd} (h : StoreIs w sb S m) (b : Bd) (hb : Fits b) :
    Calls Try.prog 13 #[Value.pointer (some ⟨sb, 0, none⟩), Value.agg #[Value.int .u32 b.k, Value.int .i32 b.r, Value.int .i32 b.ax, Value.int .i32 b.ay, Value.int .i32 b.m, Value.int .i32 b.o, Value.int .i32 b.px, Value.int .i32 b.py, Value.int .i32 b.vx, Value.int .i32 b.vy]] w (Done w sb S (setE m b) (setL m b)) := by
  unfold setE setL
  by_cases c1 : chkB b = 0
  · have d1 : ¬ (chkB b ≠ 0) := fun q => q c1
    rw [if_neg d1, if_neg d1]
    by_cases c2 : look m b.k = none
    · rw [if_pos c2, if_pos c2]; exact set_no h b hb c1 c2
    · rw [if_neg c2, if_neg c2]
      obtain ⟨x, hx⟩ := Option.ne_none_iff_exists'.1 c2
      exact set_yes h b hb c1 hx
  · rw [if_pos c1, if_pos c1]; exact set_bad h b rfl c1
theorem add_nil (b : Bd) (w : World) : Calls Try.prog 9 #[Value.pointer none, Value.agg #[Value.int .u32 b.k, Value.int .i32 b.r, Value.int .i32 b.ax, Value.int .i32 b.ay, Value.int .i32 b.m, Value.int .i32 b.o, Value.int .i32 b.px, Value.int .i32 b.py, Value.int .i32 b.vx, Value.int .i32 b.vy]] w fun e w' => e = .returned (.int .i64 1) ∧ Kep w.heap.size w w' := by
  go_enter Try.func9, Try.ntmps9
  go_wp2
  go_ret
  exact ⟨rfl, Kep.alloc (Kep.refl _ _) (Nat.le_refl _) _⟩
end Go.Proofs.Ytfkieieedljodaa
