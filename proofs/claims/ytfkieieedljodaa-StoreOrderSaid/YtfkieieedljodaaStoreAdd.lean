/-
  Package store: Add.
-/
import Derived.Test.YtfkieieedljodaaStoreSet
import Derived.Deep.QuietTactic
import Derived.BigQuiet
import Derived.Deep.RegionLaw
import Derived.Shelf.SlMaps.Clone
namespace Go.Proofs.Ytfkieieedljodaa
open Go.RowKit Go.Lib Go.Maps

theorem SI.look_at {w : World} {sb : Nat} {S : Nat → Prop} {m : List Bd} {v : Value} {mp : Option Nat} {D : List Bd} (h : SI w sb S m v mp D) {i : Nat} {b : Bd} (hi : D[i]? = some b) {key : Int} (e : b.k = key) (hk : (Lit.int .u32 key).wf = true) :
    (Instr.lookup 25 (.map mp) (.int .u32 key) true).run Try.prog w = .ok (.tuple #[.int .i64 i, .bool true]) w := by
  subst e
  obtain ⟨j, hj, _, r⟩ := h.look_yes hk (look_mem h.asc.once (h.perm.mem_iff.1 (List.mem_of_getElem? hi)))
  rcases h.idx with ⟨_, rfl⟩ | ⟨mb, Dm, _, _, ix⟩
  · simp at hi
  · rw [ix.inj hi hj rfl]; exact r

set_option maxRecDepth 100000 in
set_option maxHeartbeats 1000000 in
theorem add_bad {w : World} {sb : Nat} {S : Nat → Prop} {m : List Bd} (h : StoreIs w sb S m) (b : Bd) {c : Int} (e : chkB b = c) (hc : c ≠ 0) :
    Calls Try.prog 9 #[Value.pointer (some ⟨sb, 0, none⟩), Value.agg #[Value.int .u32 b.k, Value.int .i32 b.r, Value.int .i32 b.ax, Value.int .i32 b.ay, Value.int .i32 b.m, Value.int .i32 b.o, Value.int .i32 b.px, Value.int .i32 b.py, Value.int .i32 b.vx, Value.int .i32 b.vy]] w (Done w sb S c m) := by
  have C := Lib.hid (chk_of b.k (show chkB b = c from e))
  have hc' : (c != 0) = true := bne_iff_ne.2 hc
  have H := Lib.hid h
  clear h e hc
  go_enter Try.func9, Try.ntmps9
  go_wp2_with ((with_reducible refine (C.out _).mono ?_); rintro e w1 ⟨rfl, g1⟩)
  go_ret
  exact Done.no H.out ((Kep.alloc (Kep.refl _ _) (Nat.le_refl _) _).trans ((Kep.of_grown g1).mono (by simp)))
set_option maxRecDepth 100000 in
set_option maxHeartbeats 1000000 in
theorem add_dup {w : World} {sb : Nat} {S : Nat → Prop} {m : List Bd} (h : StoreIs w sb S m) (b : Bd) (hb : Fits b) (e : chkB b = 0) {x : Bd} (e2 : look m b.k = some x) :
    Calls Try.prog 9 #[Value.pointer (some ⟨sb, 0, none⟩), Value.agg #[Value.int .u32 b.k, Value.int .i32 b.r, Value.int .i32 b.ax, Value.int .i32 b.ay, Value.int .i32 b.m, Value.int .i32 b.o, Value.int .i32 b.px, Value.int .i32 b.py, Value.int .i32 b.vx, Value.int .i32 b.vy]] w (Done w sb S 10 m) := by
  have C := Lib.hid (chk_of b.k (show chkB b = 0 from e))
  have H0 := Lib.hid h
  obtain ⟨v, mp, D, h⟩ := h
  have H : Hid (∀ o w', Grown (w.alloc o) w' → SI w' sb S m v mp D) := Lib.hid (fun o w' (g : Grown (w.alloc o) w') => (h.alloc o).grown g)
  have E2 := Lib.hid e2
  have E3 := Lib.hid (Go.Proofs.Ytfkieieedljodaa.look_some e2).2
  have HB := Lib.hid hb
  clear h e e2 hb
  go_enter Try.func9, Try.ntmps9
  go_wp2_with ((with_reducible refine (C.out _).mono ?_); rintro e w1 ⟨rfl, g1⟩; have y0 : w1.cell? ⟨w.heap.size, 0, none⟩ = some (Value.int .u32 b.k) := kept_cell g1 (by rw [World.cell?_alloc_at _ _ _ _ rfl]; rfl); have y1 : w1.cell? ⟨w.heap.size, 1, none⟩ = some (Value.int .i32 b.r) := kept_cell g1 (by rw [World.cell?_alloc_at _ _ _ _ rfl]; rfl); have y2 : w1.cell? ⟨w.heap.size, 2, none⟩ = some (Value.int .i32 b.ax) := kept_cell g1 (by rw [World.cell?_alloc_at _ _ _ _ rfl]; rfl); have y3 : w1.cell? ⟨w.heap.size, 3, none⟩ = some (Value.int .i32 b.ay) := kept_cell g1 (by rw [World.cell?_alloc_at _ _ _ _ rfl]; rfl); have y4 : w1.cell? ⟨w.heap.size, 4, none⟩ = some (Value.int .i32 b.m) := kept_cell g1 (by rw [World.cell?_alloc_at _ _ _ _ rfl]; rfl); have y5 : w1.cell? ⟨w.heap.size, 5, none⟩ = some (Value.int .i32 b.o) := kept_cell g1 (by rw [World.cell?_alloc_at _ _ _ _ rfl]; rfl); have y6 : w1.cell? ⟨w.heap.size, 6, none⟩ = some (Value.int .i32 b.px) := kept_cell g1 (by rw [World.cell?_alloc_at _ _ _ _ rfl]; rfl); have y7 : w1.cell? ⟨w.heap.size, 7, none⟩ = some (Value.int .i32 b.py) := kept_cell g1 (by rw [World.cell?_alloc_at _ _ _ _ rfl]; rfl); have y8 : w1.cell? ⟨w.heap.size, 8, none⟩ = some (Value.int .i32 b.vx) := kept_cell g1 (by rw [World.cell?_alloc_at _ _ _ _ rfl]; rfl); have y9 : w1.cell? ⟨w.heap.size, 9, none⟩ = some (Value.int .i32 b.vy) := kept_cell g1 (by rw [World.cell?_alloc_at _ _ _ _ rfl]; rfl); have HS := Lib.hid (H.out _ _ g1); have c0 := HS.out.c0; have c1 := HS.out.c1; obtain ⟨i, d0, _, _⟩ := HS.out.look_yes (wf_u32 HB.out) E2.out; have hr := fun n => (HS.out.drewN n).look_at d0 E3.out (wf_u32 HB.out))
  go_quiet (fail)
  go_wp2
  go_ret
  exact Done.no H0.out ((Kep.alloc (Kep.refl _ _) (Nat.le_refl _) _).trans (((Kep.of_grown g1).mono (by simp)).drewN _))
theorem by_setCell (w : World) (b o : Nat) (u : Value) : w.grownBy (w.setCell ⟨b, o, none⟩ u) (some b) := ⟨rfl, rfl, rfl, by simp, fun k _ hk => heap_setCell_other w ⟨b, o, none⟩ k u (fun e => hk (by simp [e]))⟩
theorem row_map {w : World} {e k : TypeId} {P : Program} {v : Value} {n N mb g : Nat} {xs : List Value} {R : Value → Option (DataW Unit × List MemPlace)} {Dm : DataW Unit} (h : w.ownsRow 0 e 10 v n xs) (hm : w.ownsMap P k R mb N Dm) (hg : v.ownBlock = some g) : g ≠ mb := by
  obtain ⟨es, clock, hb, _⟩ := hm
  rcases h.2 with ⟨rfl, _⟩ | ⟨g', cap, cur, rfl, _, hgg, _⟩
  · cases hg
  · injection hg with hg
    intro q
    rw [← q, ← hg] at hb
    rw [hgg] at hb
    cases hb
theorem cell_map {w : World} {k : TypeId} {P : Program} {b o N mb : Nat} {u : Value} {R : Value → Option (DataW Unit × List MemPlace)} {Dm : DataW Unit} (h : w.cell? ⟨b, o, none⟩ = some u) (hm : w.ownsMap P k R mb N Dm) : b ≠ mb := by
  obtain ⟨es, clock, hb, _⟩ := hm
  rintro rfl
  simp [World.cell?, hb] at h
/-- A body added: behind the index, a box, the append and the field. -/
theorem SI.added {W w3 wa w4 : World} {sb : Nat} {S : Nat → Prop} {m : List Bd} {v : Value} {mb : Nat} {D : List Bd} {Dm : DataW Unit} {b : Bd} {g cap : Nat} (Z : SI W sb S m v (some mb) D) (ho : W.ownsMap Try.prog 28 (plainElem Try.prog 3) mb D.length Dm) (ix : Idx Dm D) (hn : look m b.k = none) (hf : Fits b) (hlen : D.length < 4096)
    (h3 : w3.ownsMap Try.prog 28 (plainElem Try.prog 3) mb (D.length + 1) (Dm.put (.int .u32 b.k) (.lit (.int .i64 D.length)))) (g3 : W.grownBy w3 (some mb)) (ga : w3.grownBy wa none)
    (h4 : w4.ownsRow 0 32 10 (.slice (some ⟨g, 0, none⟩) (D.length + 1) cap) (D.length + 1) (flat D ++ vals b)) (g4 : wa.grownBy w4 v.ownBlock) (hat : v.ownBlock = some g ∨ wa.heap.size ≤ g) (hg : g < w4.heap.size) :
    StoreIs (w4.setCell ⟨sb, 0, none⟩ (.slice (some ⟨g, 0, none⟩) (D.length + 1) cap)) sb (More S W w4) (put m b false) ∧ But S W (w4.setCell ⟨sb, 0, none⟩ (.slice (some ⟨g, 0, none⟩) (D.length + 1) cap)) := by
  have hsb : sb < W.heap.size := Z.lt sb Z.ssb
  have hmb : mb < W.heap.size := ho.lt
  have ne1 : sb ≠ mb := cell_map Z.c0 ho
  have ne2 : some sb ≠ v.ownBlock := fun e => (Z.sv sb e.symm).2 rfl
  have ne3 : some mb ≠ v.ownBlock := fun e => row_map Z.own ho e.symm rfl
  have s3 := g3.size
  have sa := ga.size
  have s4 := g4.size
  have bsb : w4.heap[sb]? = W.heap[sb]? := (g4.block sb (by omega) ne2).trans ((ga.block sb (by omega) (by simp)).trans (g3.block sb hsb (by simpa using ne1)))
  have hg' : g ≠ sb := by
    rcases hat with e | e
    · exact fun q => ne2 (by rw [← q]; exact e.symm)
    · omega
  have c0 : w4.cell? ⟨sb, 0, none⟩ = some v := (World.cell?_of_block bsb).trans Z.c0
  have c1 : w4.cell? ⟨sb, 1, none⟩ = some (.map (some mb)) := (World.cell?_of_block bsb).trans Z.c1
  have f : ∀ o, w4.frozen? ⟨sb, o, none⟩ = W.frozen? ⟨sb, o, none⟩ := fun o => World.frozen?_of_block bsb
  have gs := by_setCell w4 sb 0 (.slice (some ⟨g, 0, none⟩) (D.length + 1) cap)
  have hnm : Maps.has Dm (.int .u32 b.k) = false := ix.look_none Z.perm hn
  have ix' := ix.add (ho.tidy law) hnm
  have hp := add_perm ix' Z.perm Z.asc hn
  have hm4 : w4.ownsMap Try.prog 28 (plainElem Try.prog 3) mb (D.length + 1) (Dm.put (.int .u32 b.k) (.lit (.int .i64 D.length))) := (h3.kept ga (by simp)).kept g4 ne3
  have hl : (D ++ [b]).length = D.length + 1 := by simp
  have hS : ∀ k, S k → k < w4.heap.size := fun k hk => by have := Z.lt k hk; omega
  refine ⟨⟨.slice (some ⟨g, 0, none⟩) (D ++ [b]).length cap, some mb, D ++ [b], ⟨?_, ?_, ?_, ?_, .inl Z.ssb, ?_, ?_, .inr ⟨mb, _, rfl, ?_, ix'⟩, fun k e => .inl (Z.sm k e), fun k hk => ?_, hp, put_asc Z.asc b false, fits_put Z.asc Z.fits hf, ?_⟩⟩, ?_⟩
  · rw [hl]; exact World.cell?_setCell_same' _ _ _ (by rw [c0]; rfl)
  · rw [World.cell?_setCell_other (h := by simp)]; exact c1
  · exact (World.frozen?_setCell _ _ _ _).trans ((f 0).trans Z.f0)
  · exact (World.frozen?_setCell _ _ _ _).trans ((f 1).trans Z.f1)
  · rw [hl, flat_snoc]; exact h4.kept gs (.inr (by simpa [Value.ownBlock] using hg'))
  · intro q hq
    injection hq with hq
    subst hq
    refine ⟨?_, hg'⟩
    rcases hat with e | e
    · exact .inl (Z.sv _ e).1
    · exact .inr ⟨(show W.heap.size ≤ g by omega), hg⟩
  · rw [hl]; exact hm4.kept gs (by simpa using fun q => ne1 q.symm)
  · show k < (w4.setCell _ _).heap.size
    rw [show (w4.setCell ⟨sb, 0, none⟩ (.slice (some ⟨g, 0, none⟩) (D.length + 1) cap)).heap.size = w4.heap.size by simp]
    rcases hk with hk | hk
    · exact hS k hk
    · exact hk.2
  · rw [← hp.length_eq, hl]; omega
  · refine ⟨gs.os.trans (g4.os.trans (ga.os.trans g3.os)), gs.output.trans (g4.output.trans (ga.output.trans g3.output)), Nat.le_trans (by omega) gs.size, fun k hk hn => ?_⟩
    refine (gs.block k (by omega) (fun q => hn (by injection q with q; rw [q]; exact Z.ssb))).trans ((g4.block k (by omega) (fun q => hn (Z.sv k q.symm).1)).trans ((ga.block k (by omega) (by simp)).trans (g3.block k hk (fun q => hn (Z.sm k (by rw [q]))))))

theorem But.wider {S T : Nat → Prop} {w w' : World} (h : But S w w') (hS : ∀ k, S k → T k) : But T w w' := ⟨h.os, h.output, h.size, fun k hk hn => h.block k hk fun q => hn (hS k q)⟩
theorem done_add {w wz w4 w' : World} {sb : Nat} {S T : Nat → Prop} {m : List Bd} (h1 : StoreIs w' sb (More T wz w4) m) (h2 : But T wz w') (hk : But S w wz) (hT : ∀ k, T k → More S w wz k) (hs : w4.heap.size = w'.heap.size) (h4 : wz.heap.size ≤ w4.heap.size) (hl : ∀ k, S k → k < w.heap.size) : Done w sb S 0 m (.returned (.int .i64 0)) w' := by
  have z := hk.size
  refine ⟨rfl, h1.wider (fun k q => ?_) (fun k q => ?_), hk.trans (h2.wider hT)⟩
  · rcases q with q | q
    · rcases hT k q with q | q
      · exact .inl q
      · exact .inr ⟨q.1, by have := q.2; omega⟩
    · exact .inr ⟨by omega, by omega⟩
  · rcases q with q | q
    · have := hl k q; omega
    · exact q.2
theorem SI.shape {w : World} {sb : Nat} {S : Nat → Prop} {m : List Bd} {v : Value} {mp : Option Nat} {D : List Bd} (h : SI w sb S m v mp D) : ∃ base cap, v = .slice base D.length cap := by
  rcases h.slice with ⟨rfl, rfl⟩ | ⟨g, cap, rfl, _⟩
  · exact ⟨none, 0, rfl⟩
  · exact ⟨_, cap, rfl⟩
set_option maxRecDepth 100000 in
set_option maxHeartbeats 1000000 in
theorem add_full {w : World} {sb : Nat} {S : Nat → Prop} {m : List Bd} (h : StoreIs w sb S m) (b : Bd) (hb : Fits b) (e : chkB b = 0) (e2 : look m b.k = none) (e3 : 4096 ≤ m.length) :
    Calls Try.prog 9 #[Value.pointer (some ⟨sb, 0, none⟩), Value.agg #[Value.int .u32 b.k, Value.int .i32 b.r, Value.int .i32 b.ax, Value.int .i32 b.ay, Value.int .i32 b.m, Value.int .i32 b.o, Value.int .i32 b.px, Value.int .i32 b.py, Value.int .i32 b.vx, Value.int .i32 b.vy]] w (Done w sb S 12 m) := by
  have C := Lib.hid (chk_of b.k (show chkB b = 0 from e))
  have H0 := Lib.hid h
  obtain ⟨v, mp, D, h⟩ := h
  obtain ⟨base, cap, rfl⟩ := h.shape
  have hlen : (4096 : Int) ≤ (D.length : Int) := by rw [h.length]; omega
  have H : Hid (∀ o w', Grown (w.alloc o) w' → SI w' sb S m (.slice base D.length cap) mp D) := Lib.hid (fun o w' (g : Grown (w.alloc o) w') => (h.alloc o).grown g)
  have E2 := Lib.hid e2
  have HB := Lib.hid hb
  have HL := Lib.hid h.lt
  clear h e e2 hb e3
  go_enter Try.func9, Try.ntmps9
  go_wp2_with ((with_reducible refine (C.out _).mono ?_); rintro e w1 ⟨rfl, g1⟩; have y0 : w1.cell? ⟨w.heap.size, 0, none⟩ = some (Value.int .u32 b.k) := kept_cell g1 (by rw [World.cell?_alloc_at _ _ _ _ rfl]; rfl); have y1 : w1.cell? ⟨w.heap.size, 1, none⟩ = some (Value.int .i32 b.r) := kept_cell g1 (by rw [World.cell?_alloc_at _ _ _ _ rfl]; rfl); have y2 : w1.cell? ⟨w.heap.size, 2, none⟩ = some (Value.int .i32 b.ax) := kept_cell g1 (by rw [World.cell?_alloc_at _ _ _ _ rfl]; rfl); have y3 : w1.cell? ⟨w.heap.size, 3, none⟩ = some (Value.int .i32 b.ay) := kept_cell g1 (by rw [World.cell?_alloc_at _ _ _ _ rfl]; rfl); have y4 : w1.cell? ⟨w.heap.size, 4, none⟩ = some (Value.int .i32 b.m) := kept_cell g1 (by rw [World.cell?_alloc_at _ _ _ _ rfl]; rfl); have y5 : w1.cell? ⟨w.heap.size, 5, none⟩ = some (Value.int .i32 b.o) := kept_cell g1 (by rw [World.cell?_alloc_at _ _ _ _ rfl]; rfl); have y6 : w1.cell? ⟨w.heap.size, 6, none⟩ = some (Value.int .i32 b.px) := kept_cell g1 (by rw [World.cell?_alloc_at _ _ _ _ rfl]; rfl); have y7 : w1.cell? ⟨w.heap.size, 7, none⟩ = some (Value.int .i32 b.py) := kept_cell g1 (by rw [World.cell?_alloc_at _ _ _ _ rfl]; rfl); have y8 : w1.cell? ⟨w.heap.size, 8, none⟩ = some (Value.int .i32 b.vx) := kept_cell g1 (by rw [World.cell?_alloc_at _ _ _ _ rfl]; rfl); have y9 : w1.cell? ⟨w.heap.size, 9, none⟩ = some (Value.int .i32 b.vy) := kept_cell g1 (by rw [World.cell?_alloc_at _ _ _ _ rfl]; rfl); have HS := Lib.hid (H.out _ _ g1); have c0 := HS.out.c0; have c1 := HS.out.c1; have hr := fun n => (HS.out.drewN n).look_no (wf_u32 HB.out) E2.out)
  go_quiet (fail)
  go_wp2
  go_ret
  exact Done.no H0.out ((Kep.alloc (Kep.refl _ _) (Nat.le_refl _) _).trans (((Kep.of_grown g1).mono (by simp)).drewN _))
set_option maxRecDepth 100000 in
set_option maxHeartbeats 1000000 in
theorem add_some {w : World} {sb : Nat} {S : Nat → Prop} {m : List Bd} {v : Value} {mb : Nat} {D : List Bd} (h : SI w sb S m v (some mb) D) (b : Bd) (hb : Fits b) (e : chkB b = 0) (e2 : look m b.k = none) (e3 : m.length < 4096) :
    Calls Try.prog 9 #[Value.pointer (some ⟨sb, 0, none⟩), Value.agg #[Value.int .u32 b.k, Value.int .i32 b.r, Value.int .i32 b.ax, Value.int .i32 b.ay, Value.int .i32 b.m, Value.int .i32 b.o, Value.int .i32 b.px, Value.int .i32 b.py, Value.int .i32 b.vx, Value.int .i32 b.vy]] w (Done w sb S 0 (put m b false)) := by
  have C := Lib.hid (chk_of b.k (show chkB b = 0 from e))
  obtain ⟨base, cap, rfl⟩ := h.shape
  have hlen : (D.length : Int) < 4096 := by rw [h.length]; omega
  have H : Hid (∀ o w', Grown (w.alloc o) w' → SI w' sb S m (.slice base D.length cap) (some mb) D) := Lib.hid (fun o w' (g : Grown (w.alloc o) w') => (h.alloc o).grown g)
  have E2 := Lib.hid e2
  have HB := Lib.hid hb
  have HL := Lib.hid h.lt
  clear h e e2 hb e3
  have hq := fun w => run_eql_map_nil_sl (P := Try.prog) w 25 _ _ (some mb) Try.underlying25
  go_enter Try.func9, Try.ntmps9
  go_wp2_with ((with_reducible refine (C.out _).mono ?_); rintro e w1 ⟨rfl, g1⟩; have y0 : w1.cell? ⟨w.heap.size, 0, none⟩ = some (Value.int .u32 b.k) := kept_cell g1 (by rw [World.cell?_alloc_at _ _ _ _ rfl]; rfl); have y1 : w1.cell? ⟨w.heap.size, 1, none⟩ = some (Value.int .i32 b.r) := kept_cell g1 (by rw [World.cell?_alloc_at _ _ _ _ rfl]; rfl); have y2 : w1.cell? ⟨w.heap.size, 2, none⟩ = some (Value.int .i32 b.ax) := kept_cell g1 (by rw [World.cell?_alloc_at _ _ _ _ rfl]; rfl); have y3 : w1.cell? ⟨w.heap.size, 3, none⟩ = some (Value.int .i32 b.ay) := kept_cell g1 (by rw [World.cell?_alloc_at _ _ _ _ rfl]; rfl); have y4 : w1.cell? ⟨w.heap.size, 4, none⟩ = some (Value.int .i32 b.m) := kept_cell g1 (by rw [World.cell?_alloc_at _ _ _ _ rfl]; rfl); have y5 : w1.cell? ⟨w.heap.size, 5, none⟩ = some (Value.int .i32 b.o) := kept_cell g1 (by rw [World.cell?_alloc_at _ _ _ _ rfl]; rfl); have y6 : w1.cell? ⟨w.heap.size, 6, none⟩ = some (Value.int .i32 b.px) := kept_cell g1 (by rw [World.cell?_alloc_at _ _ _ _ rfl]; rfl); have y7 : w1.cell? ⟨w.heap.size, 7, none⟩ = some (Value.int .i32 b.py) := kept_cell g1 (by rw [World.cell?_alloc_at _ _ _ _ rfl]; rfl); have y8 : w1.cell? ⟨w.heap.size, 8, none⟩ = some (Value.int .i32 b.vx) := kept_cell g1 (by rw [World.cell?_alloc_at _ _ _ _ rfl]; rfl); have y9 : w1.cell? ⟨w.heap.size, 9, none⟩ = some (Value.int .i32 b.vy) := kept_cell g1 (by rw [World.cell?_alloc_at _ _ _ _ rfl]; rfl); have HS := Lib.hid (H.out _ _ g1); have c0 := HS.out.c0; have c1 := HS.out.c1; have hr := fun n => (HS.out.drewN n).look_no (wf_u32 HB.out) E2.out)
  go_quiet (fail)
  go_wp2
  rcases HS.out.idx with ⟨q, _⟩ | ⟨mb', Dm, hmb, ho, ix⟩
  · cases q
  injection hmb with hmb
  subst hmb
  have HO := Lib.hid ho
  have IX := Lib.hid ix
  clear ho ix hr hq
  generalize hwz : World.drewN w1 _ = wz
  have Z : Hid (SI wz sb S m (.slice base D.length cap) (some mb) D) := Lib.hid (by rw [← hwz]; exact HS.out.drewN _)
  replace HO : Hid (wz.ownsMap Try.prog 28 (plainElem Try.prog 3) mb D.length Dm) := Lib.hid (by rw [← hwz]; exact HO.out)
  replace c0 := Z.out.c0
  replace c1 := Z.out.c1
  replace y0 : wz.cell? ⟨w.heap.size, 0, none⟩ = some (Value.int .u32 b.k) := by rw [← hwz]; exact y0
  replace y1 : wz.cell? ⟨w.heap.size, 1, none⟩ = some (Value.int .i32 b.r) := by rw [← hwz]; exact y1
  replace y2 : wz.cell? ⟨w.heap.size, 2, none⟩ = some (Value.int .i32 b.ax) := by rw [← hwz]; exact y2
  replace y3 : wz.cell? ⟨w.heap.size, 3, none⟩ = some (Value.int .i32 b.ay) := by rw [← hwz]; exact y3
  replace y4 : wz.cell? ⟨w.heap.size, 4, none⟩ = some (Value.int .i32 b.m) := by rw [← hwz]; exact y4
  replace y5 : wz.cell? ⟨w.heap.size, 5, none⟩ = some (Value.int .i32 b.o) := by rw [← hwz]; exact y5
  replace y6 : wz.cell? ⟨w.heap.size, 6, none⟩ = some (Value.int .i32 b.px) := by rw [← hwz]; exact y6
  replace y7 : wz.cell? ⟨w.heap.size, 7, none⟩ = some (Value.int .i32 b.py) := by rw [← hwz]; exact y7
  replace y8 : wz.cell? ⟨w.heap.size, 8, none⟩ = some (Value.int .i32 b.vx) := by rw [← hwz]; exact y8
  replace y9 : wz.cell? ⟨w.heap.size, 9, none⟩ = some (Value.int .i32 b.vy) := by rw [← hwz]; exact y9
  have GK : Hid (But S w wz) := Lib.hid (by rw [← hwz]; exact But.of_kep ((Kep.alloc (Kep.refl _ _) (Nat.le_refl _) _).trans (((Kep.of_grown g1).mono (by simp)).drewN _)))
  have HM : Hid (∀ k, S k → More S w wz k) := Lib.hid fun k q => .inl q
  have HT : Hid (∀ k, S k → k ≠ w.heap.size) := Lib.hid fun k q => by have := HL.out k q; omega
  clear hwz HS g1 H C
  go_still_tail 11, (by kernel_rfl)
  go_wp2_with (at_mapUpdate; refine wpList_mapUpdate_own _ rfl _ _ _ 25 rfl 28 3 law Try.underlying25 (plainElem Try.prog 3) mb D.length Dm (by rfl) HO.out (by unfold maxLen; omega) _ _ (.int .u32 b.k) (by rfl) (by rfl) (keyOf_int_mk Try.underlying28 (wf_u32 HB.out)) (.lit (.int .i64 D.length)) [] (plainElem_int Try.underlying3 (WalkArith.wf_i64 (by omega))) ?_; intro w3 h3 g3)
  have G3 : Hid (wz.grownBy w3 (some mb)) := Lib.hid ⟨g3.os, g3.tape, g3.output, g3.size, g3.block⟩
  have H3 := Lib.hid h3
  have n1 : sb ≠ mb := cell_map c0 HO.out
  have n2 : w.heap.size ≠ mb := cell_map y0 HO.out
  have n3 : some sb ≠ (Value.slice base D.length cap).ownBlock := fun e => (Z.out.sv sb e.symm).2 rfl
  have n4 : some w.heap.size ≠ (Value.slice base D.length cap).ownBlock := fun e => HT.out _ (Z.out.sv _ e.symm).1 rfl
  have n5 : sb ≠ w.heap.size := HT.out _ Z.out.ssb
  have n6 : some mb ≠ (Value.slice base D.length cap).ownBlock := fun e => row_map Z.out.own HO.out e.symm rfl
  have d0 := G3.out.cell c0 (by simpa using n1)
  have own3 := Z.out.own.kept G3.out (.inr fun e => n6 e.symm)
  have e0 : w3.frozen? ⟨sb, 0, none⟩ = false := by rw [G3.out.frozen_far _ (Z.out.lt _ Z.out.ssb) (by simpa using n1)]; exact Z.out.f0
  have l0 : sb < w3.heap.size := World.block_lt_of_cell? _ _ d0
  have z0 := G3.out.cell y0 (by simpa using n2)
  have z1 := G3.out.cell y1 (by simpa using n2)
  have z2 := G3.out.cell y2 (by simpa using n2)
  have z3 := G3.out.cell y3 (by simpa using n2)
  have z4 := G3.out.cell y4 (by simpa using n2)
  have z5 := G3.out.cell y5 (by simpa using n2)
  have z6 := G3.out.cell y6 (by simpa using n2)
  have z7 := G3.out.cell y7 (by simpa using n2)
  have z8 := G3.out.cell y8 (by simpa using n2)
  have z9 := G3.out.cell y9 (by simpa using n2)
  have l1 : w.heap.size < w3.heap.size := World.block_lt_of_cell? _ _ z0
  have a0 : ∀ o, (w3.alloc o).drew.cell? ⟨w.heap.size, 0, none⟩ = some (Value.int .u32 b.k) := fun o => by rw [World.cell?_drew, World.cell?_alloc_past _ _ _ l1]; exact z0
  have a1 : ∀ o, (w3.alloc o).drew.cell? ⟨w.heap.size, 1, none⟩ = some (Value.int .i32 b.r) := fun o => by rw [World.cell?_drew, World.cell?_alloc_past _ _ _ l1]; exact z1
  have a2 : ∀ o, (w3.alloc o).drew.cell? ⟨w.heap.size, 2, none⟩ = some (Value.int .i32 b.ax) := fun o => by rw [World.cell?_drew, World.cell?_alloc_past _ _ _ l1]; exact z2
  have a3 : ∀ o, (w3.alloc o).drew.cell? ⟨w.heap.size, 3, none⟩ = some (Value.int .i32 b.ay) := fun o => by rw [World.cell?_drew, World.cell?_alloc_past _ _ _ l1]; exact z3
  have a4 : ∀ o, (w3.alloc o).drew.cell? ⟨w.heap.size, 4, none⟩ = some (Value.int .i32 b.m) := fun o => by rw [World.cell?_drew, World.cell?_alloc_past _ _ _ l1]; exact z4
  have a5 : ∀ o, (w3.alloc o).drew.cell? ⟨w.heap.size, 5, none⟩ = some (Value.int .i32 b.o) := fun o => by rw [World.cell?_drew, World.cell?_alloc_past _ _ _ l1]; exact z5
  have a6 : ∀ o, (w3.alloc o).drew.cell? ⟨w.heap.size, 6, none⟩ = some (Value.int .i32 b.px) := fun o => by rw [World.cell?_drew, World.cell?_alloc_past _ _ _ l1]; exact z6
  have a7 : ∀ o, (w3.alloc o).drew.cell? ⟨w.heap.size, 7, none⟩ = some (Value.int .i32 b.py) := fun o => by rw [World.cell?_drew, World.cell?_alloc_past _ _ _ l1]; exact z7
  have a8 : ∀ o, (w3.alloc o).drew.cell? ⟨w.heap.size, 8, none⟩ = some (Value.int .i32 b.vx) := fun o => by rw [World.cell?_drew, World.cell?_alloc_past _ _ _ l1]; exact z8
  have a9 : ∀ o, (w3.alloc o).drew.cell? ⟨w.heap.size, 9, none⟩ = some (Value.int .i32 b.vy) := fun o => by rw [World.cell?_drew, World.cell?_alloc_past _ _ _ l1]; exact z9
  have d1 : ∀ o, (w3.alloc o).drew.cell? ⟨sb, 0, none⟩ = some (.slice base D.length cap) := fun o => by rw [World.cell?_drew, World.cell?_alloc_past _ _ _ l0]; exact d0
  have e1 : ∀ o, (w3.alloc o).drew.frozen? ⟨sb, 0, none⟩ = false := fun o => by rw [World.frozen?_drew, World.frozen?_alloc_past _ _ _ l0]; exact e0
  have AO : ∀ o, ((w3.alloc o).drew).ownsRow 0 32 10 (.slice base D.length cap) D.length (flat D) := fun o => own3.alloc o
  have GA : Hid (∀ o, w3.grownBy (w3.alloc o).drew none) := Lib.hid (fun o => have g := World.grownBy_alloc w3 o none; ⟨g.os, g.tape, g.output, g.size, g.block⟩)
  obtain ⟨i0, hi, hz0, hz1, hz2⟩ := info_parts info_body
  clear g3 h3 c0 c1 y0 y1 y2 y3 y4 y5 y6 y7 y8 y9
  replace AO := Lib.hid AO
  replace own3 := Lib.hid own3
  replace hi := Lib.hid hi
  go_region_law ((refine step_append_lies _ (by rfl) _ _ 24 (by rfl) 0 32 i0 (.agg #[.int .u32 0, .int .i32 0, .int .i32 0, .int .i32 0, .int .i32 0, .int .i32 0, .int .i32 0, .int .i32 0, .int .i32 0, .int .i32 0]) 10 40 Try.underlying24 hi.out hz0 hz1 hz2 rfl (by decide) (.slice base D.length cap) D.length (flat D) (by rfl) (AO.out _) ⟨w3.heap.size, 0, none⟩ 1 1 (vals b) (by rfl) (by rfl) (World.news_of_block (cs := #[Value.int .u32 b.k, Value.int .i32 b.r, Value.int .i32 b.ax, Value.int .i32 b.ay, Value.int .i32 b.m, Value.int .i32 b.o, Value.int .i32 b.px, Value.int .i32 b.py, Value.int .i32 b.vx, Value.int .i32 b.vy]) (t := 32) (fr := (0, 0)) (heap_alloc_new w3 _)) (one_cell b) (by decide) (by unfold maxLen; omega) (by omega) (by simp) (w3.heap.size + 1) (by simp) ?_; intro g cap' w4 hown hgrow hat hlt; have d2 := hgrow.cell (d1 _) n3; have e2 : w4.frozen? ⟨sb, 0, none⟩ = false := (hgrow.frozen_far _ (World.block_lt_of_cell? _ _ (d1 _)) n3).trans (e1 _)))
  all_goals go_wp2
  all_goals go_ret
  all_goals (have Q := SI.added Z.out HO.out IX.out E2.out HB.out (by omega) H3.out G3.out (GA.out _) hown hgrow (hat.imp id (fun e => by rw [e]; simp)) hlt)
  all_goals exact done_add Q.1 Q.2 GK.out HM.out (by simp) (Nat.le_trans G3.out.size (Nat.le_trans (GA.out _).size hgrow.size)) HL.out
end Go.Proofs.Ytfkieieedljodaa
