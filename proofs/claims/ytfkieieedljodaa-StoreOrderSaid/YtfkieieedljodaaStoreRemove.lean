/-
  Package store: Remove.
-/
import Derived.Test.YtfkieieedljodaaStoreAdd2
import Derived.Test.YtfkieieedljodaaStoreEntry
import Derived.Deep.RegionHeld3
namespace Go.Proofs.Ytfkieieedljodaa
open Go.RowKit Go.Lib Go.Maps

theorem tight {w : World} {P : Program} {k : TypeId} {R : Value → Option (DataW Unit × List MemPlace)} {b n : Nat} {D : DataW Unit} (h : w.ownsMap P k R b n D) : w.ownsMap P k R b (Maps.size D) D := by
  obtain ⟨es, clock, hb, F, _, rfl⟩ := h
  exact ⟨es, clock, hb, F, by simp [Maps.size, length_sorted], rfl⟩
theorem SI.removed {w wA w5 w6 : World} {sb : Nat} {S : Nat → Prop} {m : List Bd} {mb : Nat} {D : List Bd} {Dm : DataW Unit} {b z : Bd} {g cap i n N : Nat} (Z : SI w sb S m (.slice (some ⟨g, 0, none⟩) D.length cap) (some mb) D) (ho : w.ownsMap Try.prog 28 (plainElem Try.prog 3) mb D.length Dm) (ix : Idx Dm D) (hi : D[i]? = some b) (hz : D[D.length - 1]? = some z) (hn : D.length = n + 1)
    (ga : w.grownBy wA none) (g5 : (setb wA g (i * 10) z).grownBy w5 (some mb)) (h6 : w6.ownsMap Try.prog 28 (plainElem Try.prog 3) mb N ((Dm.put (.int .u32 z.k) (.lit (.int .i64 i))).del (.int .u32 b.k))) (g6 : (w5.setCell ⟨sb, 0, none⟩ (.slice (some ⟨g, 0, none⟩) n cap)).grownBy w6 (some mb)) :
    StoreIs w6 sb S (put m (bare b.k) true) ∧ But S w w6 := by
  have hl := (List.getElem?_eq_some_iff.1 hi).1
  have hsb := Z.lt sb Z.ssb
  have ng : g ≠ sb := (Z.sv g rfl).2
  have sg : S g := (Z.sv g rfl).1
  have hg := Z.lt g sg
  have n1 : sb ≠ mb := cell_map Z.c0 ho
  have n2 : g ≠ mb := row_map Z.own ho rfl
  have gr := grown_setb wA g (i * 10) z
  have gs := by_setCell w5 sb 0 (.slice (some ⟨g, 0, none⟩) n cap)
  have sa := ga.size
  have s1 := gr.size
  have s5 := g5.size
  have s7 := gs.size
  have s6 := g6.size
  have ix' := ix.swap (ho.tidy law) hi hz
  have hp := swap_perm ix ix' Z.perm Z.asc hi hz
  have hlen : (swap D i z).length = n := by rw [swap_len, hn]; rfl
  have own : w6.ownsRow 0 32 10 (.slice (some ⟨g, 0, none⟩) (swap D i z).length cap) (swap D i z).length (flat (swap D i z)) := by
    have a1 := Z.own.kept ga (.inr (by simp [Value.ownBlock]))
    have a2 := own_setb (p := i * 10) z a1
    rw [← flat_set D i z hl] at a2
    have a3 := ((a2.kept g5 (.inr (by simpa [Value.ownBlock] using n2))).kept gs (.inr (by simpa [Value.ownBlock] using ng))).kept g6 (.inr (by simpa [Value.ownBlock] using n2))
    have a4 := own_cut (k := n) a3 (by omega)
    rw [← flat_take] at a4
    have e : (D.set i z).take n = swap D i z := by unfold swap; rw [hn]; rfl
    rw [e] at a4
    rw [hlen]; exact a4
  have bsb : w5.heap[sb]? = w.heap[sb]? := (g5.block sb (by omega) (by simpa using n1)).trans ((gr.block sb (by omega) (by simpa using fun q => ng q.symm)).trans (ga.block sb hsb (by simp)))
  have c0 : w5.cell? ⟨sb, 0, none⟩ = some _ := (World.cell?_of_block bsb).trans Z.c0
  have c1 : w5.cell? ⟨sb, 1, none⟩ = some _ := (World.cell?_of_block bsb).trans Z.c1
  have f : ∀ o, w6.frozen? ⟨sb, o, none⟩ = w.frozen? ⟨sb, o, none⟩ := fun o => (g6.frozen_far _ (by simp; omega) (by simpa using n1)).trans ((World.frozen?_setCell _ _ _ _).trans (World.frozen?_of_block bsb))
  refine ⟨⟨.slice (some ⟨g, 0, none⟩) (swap D i z).length cap, some mb, swap D i z, ⟨?_, ?_, (f 0).trans Z.f0, (f 1).trans Z.f1, Z.ssb, own, fun q hq => Z.sv q hq, .inr ⟨mb, _, rfl, ?_, ix'⟩, Z.sm, fun k hk => by have := Z.lt k hk; omega, hp, put_asc Z.asc _ true, ?_, ?_⟩⟩, ?_⟩
  · rw [hlen]; exact g6.cell (World.cell?_setCell_same' _ _ _ (by rw [c0]; rfl)) (by simpa using n1)
  · refine g6.cell ?_ (by simpa using n1)
    rw [World.cell?_setCell_other (h := by simp)]; exact c1
  · have := tight h6
    rw [ix'.size] at this
    exact this
  · intro x hx
    exact Z.fits x ((mem_gone _ x).1 hx).1
  · have := Z.len
    have := Z.length
    rw [← hp.length_eq, hlen]; omega
  · refine ⟨g6.os.trans (gs.os.trans (g5.os.trans (gr.os.trans ga.os))), g6.output.trans (gs.output.trans (g5.output.trans (gr.output.trans ga.output))), by omega, fun k hk q => ?_⟩
    have q1 : some k ≠ some mb := fun e => q (Z.sm k (by rw [e]))
    have q2 : some k ≠ some g := fun e => q (by injection e with e; rw [e]; exact sg)
    have q3 : some k ≠ some sb := fun e => q (by injection e with e; rw [e]; exact Z.ssb)
    exact (g6.block k (by omega) q1).trans ((gs.block k (by omega) q3).trans ((g5.block k (by omega) q1).trans ((gr.block k (by omega) q2).trans (ga.block k hk (by simp)))))

theorem own_drew {w : World} {mb N : Nat} {Dm : DataW Unit} {P : Program} {k : TypeId} {R : Value → Option (DataW Unit × List MemPlace)} (h : w.ownsMap P k R mb N Dm) : w.drew.ownsMap P k R mb N Dm := h
theorem by_drew {w w' : World} {r : Option Nat} (h : w.drew.grownBy w' r) : w.grownBy w' r := ⟨h.os, h.tape, h.output, h.size, h.block⟩
/-- The index of the last body, turned by the tuple assignment. -/
theorem entry_step {wA : World} {sb : Nat} {S : Nat → Prop} {m : List Bd} {mb : Nat} {D : List Bd} {Dm : DataW Unit} {z : Bd} {g cap q : Nat} (Z : SI wA sb S m (.slice (some ⟨g, 0, none⟩) D.length cap) (some mb) D) (ho : wA.ownsMap Try.prog 28 (plainElem Try.prog 3) mb D.length Dm) (ix : Idx Dm D) (hz : D[D.length - 1]? = some z) (hD : D.length ≤ 4096) {i : Nat} (hi : (i : Int) ≤ 4096) (hk : (Lit.int .u32 z.k).wf = true) :
    ∃ (v0 : Value) (st : Nat) (w5 : World), (Instr.mapEntry 25 (.map (some mb)) (.int .u32 z.k)).run Try.prog (setb wA g q z).drew = .ok (.tuple #[v0, .int .i64 st]) (setb wA g q z).drew ∧
      (Instr.entryStore 25 (.map (some mb)) (.int .i64 st) (.int .i64 i)).run Try.prog (setb wA g q z).drew = .ok () w5 ∧ w5.ownsMap Try.prog 28 (plainElem Try.prog 3) mb (D.length + 1) (Dm.put (.int .u32 z.k) (.lit (.int .i64 i))) ∧ (setb wA g q z).grownBy w5 (some mb) := by
  have n2 : g ≠ mb := row_map Z.own ho rfl
  have HOS := own_drew (ho.kept (grown_setb wA g q z) (by simpa using fun q => n2 q.symm))
  generalize setb wA g q z = wB at HOS ⊢
  obtain ⟨v0, st, m1, m2⟩ := entry_at HOS law Try.underlying25 (zeroE _) (keyOf_int_mk Try.underlying28 hk) (ix.has _ z hz).1 (.int .i64 i)
  obtain ⟨w5, r5, h5, g5⟩ := HOS.update law Try.underlying25 (by unfold maxLen; omega) (keyOf_int_mk Try.underlying28 hk) (plainElem_int (a := (i : Int)) Try.underlying3 (WalkArith.wf_i64 (by omega)))
  rw [r5] at m2
  exact ⟨v0, st, w5, m1, m2, h5, by_drew g5⟩
set_option maxRecDepth 100000 in
set_option maxHeartbeats 1000000 in
theorem remove_no {w : World} {sb : Nat} {S : Nat → Prop} {m : List Bd} (h : StoreIs w sb S m) {key : Int} (hk : (Lit.int .u32 key).wf = true) (e : look m key = none) :
    Calls Try.prog 11 #[Value.pointer (some ⟨sb, 0, none⟩), .int .u32 key] w (Done w sb S 11 m) := by
  have H0 := Lib.hid h
  obtain ⟨v, mp, D, h⟩ := h
  have C := Lib.hid (find_no h hk e)
  clear h e hk
  go_enter Try.func11, Try.ntmps11
  go_wp2_with ((with_reducible refine (C.out).mono ?_); rintro e w' ⟨rfl, rfl⟩)
  go_ret
  exact Done.no H0.out (Kep.refl _ _)
set_option maxRecDepth 100000 in
set_option maxHeartbeats 1000000 in
theorem remove_yes {w : World} {sb : Nat} {S : Nat → Prop} {m : List Bd} (h : StoreIs w sb S m) {b : Bd} (hk : (Lit.int .u32 b.k).wf = true) (e : look m b.k = some b) :
    Calls Try.prog 11 #[Value.pointer (some ⟨sb, 0, none⟩), .int .u32 b.k] w (Done w sb S 0 (put m (bare b.k) true)) := by
  obtain ⟨v, mp, D, h⟩ := h
  obtain ⟨i, hi, _, C0⟩ := find_yes h hk e
  obtain ⟨g, cap, rfl, hcap, hl, ng, hg, hg1, hf, _⟩ := h.at_ hi
  obtain ⟨n, hn⟩ : ∃ n, D.length = n + 1 := ⟨D.length - 1, by omega⟩
  have hz : D[D.length - 1]? = some (D[D.length - 1]'(by omega)) := List.getElem?_eq_getElem _
  generalize D[D.length - 1]'(by omega) = z at hz
  obtain ⟨g2, cap2, hv, _, _, _, _, _, _, x0, x1, x2, x3, x4, x5, x6, x7, x8, x9⟩ := h.at_ hz
  simp only [Value.slice.injEq, Option.some.injEq, Addr.mk.injEq, and_true, true_and] at hv
  obtain ⟨q1, q2⟩ := hv
  subst q1 q2
  rcases h.idx with ⟨_, q⟩ | ⟨mb, Dm, rfl, ho, ix⟩
  · rw [q] at hn; simp at hn
  have C := Lib.hid C0
  have Z := Lib.hid h
  have HI := Lib.hid hi
  have HZ := Lib.hid hz
  have HO := Lib.hid ho
  have IX := Lib.hid ix
  have HK := Lib.hid hk
  have c0 := h.c0
  have c1 := h.c1
  have f0 := h.f0
  have l0 := h.lt sb h.ssb
  have l1 : mb < w.heap.size := ho.lt
  rw [hn] at c0 hl hcap x0 x1 x2 x3 x4 x5 x6 x7 x8 x9
  simp only [Nat.add_sub_cancel] at x0 x1 x2 x3 x4 x5 x6 x7 x8 x9
  have i0 : (0 : Int) ≤ (i : Int) := Int.natCast_nonneg _
  have i1 : (i : Int) < (n : Int) + 1 := by omega
  have i2 : (n : Int) < 4096 := by have := h.len; have := h.length; omega
  have HN := Lib.hid hn
  clear h C0 hi hz ho ix hk e hn
  go_enter Try.func11, Try.ntmps11
  go_wp2_with ((with_reducible refine (C.out).mono ?_); rintro e w' ⟨rfl, rfl⟩)
  obtain ⟨wA, hwA⟩ : ∃ x, x = w.alloc (.cells #[Value.int .u32 z.k, Value.int .i32 z.r, Value.int .i32 z.ax, Value.int .i32 z.ay, Value.int .i32 z.m, Value.int .i32 z.o, Value.int .i32 z.px, Value.int .i32 z.py, Value.int .i32 z.vx, Value.int .i32 z.vy] 32) := ⟨_, rfl⟩
  have ga : w.grownBy wA none := by rw [hwA]; exact World.grownBy_alloc _ _ none
  have ZA : SI wA sb S m (.slice (some ⟨g, 0, none⟩) D.length cap) (some mb) D := by rw [hwA]; exact Z.out.alloc _
  have HOA := HO.out.kept ga (by simp)
  have b0 : wA.cell? ⟨w.heap.size, 0, none⟩ = some (Value.int .u32 z.k) := by rw [hwA, World.cell?_alloc_at _ _ _ _ rfl]; rfl
  have b1 : wA.cell? ⟨w.heap.size, 1, none⟩ = some (Value.int .i32 z.r) := by rw [hwA, World.cell?_alloc_at _ _ _ _ rfl]; rfl
  have b2 : wA.cell? ⟨w.heap.size, 2, none⟩ = some (Value.int .i32 z.ax) := by rw [hwA, World.cell?_alloc_at _ _ _ _ rfl]; rfl
  have b3 : wA.cell? ⟨w.heap.size, 3, none⟩ = some (Value.int .i32 z.ay) := by rw [hwA, World.cell?_alloc_at _ _ _ _ rfl]; rfl
  have b4 : wA.cell? ⟨w.heap.size, 4, none⟩ = some (Value.int .i32 z.m) := by rw [hwA, World.cell?_alloc_at _ _ _ _ rfl]; rfl
  have b5 : wA.cell? ⟨w.heap.size, 5, none⟩ = some (Value.int .i32 z.o) := by rw [hwA, World.cell?_alloc_at _ _ _ _ rfl]; rfl
  have b6 : wA.cell? ⟨w.heap.size, 6, none⟩ = some (Value.int .i32 z.px) := by rw [hwA, World.cell?_alloc_at _ _ _ _ rfl]; rfl
  have b7 : wA.cell? ⟨w.heap.size, 7, none⟩ = some (Value.int .i32 z.py) := by rw [hwA, World.cell?_alloc_at _ _ _ _ rfl]; rfl
  have b8 : wA.cell? ⟨w.heap.size, 8, none⟩ = some (Value.int .i32 z.vx) := by rw [hwA, World.cell?_alloc_at _ _ _ _ rfl]; rfl
  have b9 : wA.cell? ⟨w.heap.size, 9, none⟩ = some (Value.int .i32 z.vy) := by rw [hwA, World.cell?_alloc_at _ _ _ _ rfl]; rfl
  rw [← hwA]
  obtain ⟨g3, cap3, hv3, _, _, _, _, hgA, hfA, y0, y1, y2, y3, y4, y5, y6, y7, y8, y9⟩ := ZA.at_ HI.out
  simp only [Value.slice.injEq, Option.some.injEq, Addr.mk.injEq, and_true, true_and] at hv3
  obtain ⟨q1, q2⟩ := hv3
  subst q1 q2
  have n1 : sb ≠ mb := cell_map Z.out.c0 HO.out
  have n2 : g ≠ mb := row_map Z.out.own HO.out rfl
  have n3 : g ≠ w.heap.size := fun e => by omega
  have n4 : w.heap.size ≠ mb := fun e => by have := HO.out.lt; omega
  have hzk : (Lit.int .u32 z.k).wf = true := wf_u32 (Z.out.fits z (Z.out.perm.mem_iff.1 (List.mem_of_getElem? HZ.out)))
  have gr := grown_setb wA g (i * 10) z
  have d0 := gr.cell ZA.c0 (by simpa using fun q => ng q.symm)
  have d1 := gr.cell ZA.c1 (by simpa using fun q => ng q.symm)
  have e0 := gr.cell b0 (by simpa using fun q => n3 q.symm)
  have e1 := gr.cell b1 (by simpa using fun q => n3 q.symm)
  have e2 := gr.cell b2 (by simpa using fun q => n3 q.symm)
  have e3 := gr.cell b3 (by simpa using fun q => n3 q.symm)
  have e4 := gr.cell b4 (by simpa using fun q => n3 q.symm)
  have e5 := gr.cell b5 (by simpa using fun q => n3 q.symm)
  have e6 := gr.cell b6 (by simpa using fun q => n3 q.symm)
  have e7 := gr.cell b7 (by simpa using fun q => n3 q.symm)
  have e8 := gr.cell b8 (by simpa using fun q => n3 q.symm)
  have e9 := gr.cell b9 (by simpa using fun q => n3 q.symm)
  obtain ⟨v0, st, w5, m1, m2, h5, g5⟩ := entry_step ZA HOA IX.out HZ.out (by have := HN.out; omega) (i := i) (q := i * 10) (by omega) hzk
  have k0 := g5.cell d0 (by simpa using n1)
  have k1 := g5.cell d1 (by simpa using n1)
  have u0 := g5.cell e0 (by simpa using n4)
  have u1 := g5.cell e1 (by simpa using n4)
  have u2 := g5.cell e2 (by simpa using n4)
  have u3 := g5.cell e3 (by simpa using n4)
  have u4 := g5.cell e4 (by simpa using n4)
  have u5 := g5.cell e5 (by simpa using n4)
  have u6 := g5.cell e6 (by simpa using n4)
  have u7 := g5.cell e7 (by simpa using n4)
  have u8 := g5.cell e8 (by simpa using n4)
  have u9 := g5.cell e9 (by simpa using n4)
  have fA : w5.frozen? ⟨sb, 0, none⟩ = false := (g5.frozen_far _ (World.block_lt_of_cell? _ _ d0) (by simpa using n1)).trans ((gr.frozen_far _ (ZA.lt _ ZA.ssb) (by simpa using fun q => ng q.symm)).trans ZA.f0)
  have H5 := Lib.hid h5
  have GA := Lib.hid ga
  have G5 := Lib.hid g5
  have a0 := ZA.c0
  have a1 := ZA.c1
  rw [HN.out] at a0 d0 k0
  clear hwA ga ZA HOA h5 g5 gr c0 c1 x0 x1 x2 x3 x4 x5 x6 x7 x8 x9 hf f0 C hzk
  simp only [setb] at m1 m2 d0 d1 e0 e1 e2 e3 e4 e5 e6 e7 e8 e9
  go_region_held3 (fun w' => w'.cell? ⟨sb, 0, none⟩ = some (Value.slice (some ⟨g, 0, none⟩) (n + 1) cap) ∧ w'.cell? ⟨sb, 1, none⟩ = some (Value.map (some mb)) ∧ w'.cell? ⟨w.heap.size, 0, none⟩ = some (Value.int .u32 z.k) ∧ w'.cell? ⟨w.heap.size, 1, none⟩ = some (Value.int .i32 z.r) ∧ w'.cell? ⟨w.heap.size, 2, none⟩ = some (Value.int .i32 z.ax) ∧ w'.cell? ⟨w.heap.size, 3, none⟩ = some (Value.int .i32 z.ay) ∧ w'.cell? ⟨w.heap.size, 4, none⟩ = some (Value.int .i32 z.m) ∧ w'.cell? ⟨w.heap.size, 5, none⟩ = some (Value.int .i32 z.o) ∧ w'.cell? ⟨w.heap.size, 6, none⟩ = some (Value.int .i32 z.px) ∧ w'.cell? ⟨w.heap.size, 7, none⟩ = some (Value.int .i32 z.py) ∧ w'.cell? ⟨w.heap.size, 8, none⟩ = some (Value.int .i32 z.vx) ∧ w'.cell? ⟨w.heap.size, 9, none⟩ = some (Value.int .i32 z.vy))
    (first
      | with_reducible assumption
      | (refine ⟨?_, ?_, ?_, ?_, ?_, ?_, ?_, ?_, ?_, ?_, ?_, ?_⟩ <;> (rw [World.cell?_drew]; with_reducible assumption))
      | (refine ⟨?_, ?_, ?_, ?_, ?_, ?_, ?_, ?_, ?_, ?_, ?_, ?_⟩ <;> with_reducible assumption))
    (fail)
  have hc : (n : Int) ≤ (cap : Int) := by omega
  go_wp2_with (at_delete; refine wpList_delete_own _ rfl _ _ 25 28 rfl 3 law Try.underlying25 (plainElem Try.prog 3) mb (D.length + 1) _ rfl (H5.out.setCell (a := ⟨sb, 0, none⟩) (fun q => n1 q.symm) _) _ _ rfl (keyOf_int_mk Try.underlying28 HK.out) ?_; intro w6 h6 t6)
  go_ret
  have Q := SI.removed Z.out HO.out IX.out HI.out HZ.out HN.out GA.out G5.out h6 t6.grown
  obtain ⟨⟨v', mp', D', q⟩, Q2⟩ := Q
  exact ⟨rfl, q.more, Q2⟩

theorem remove_any {w : World} {sb : Nat} {S : Nat → Prop} {m : List Bd} (h : StoreIs w sb S m) {key : Int} (hk : (Lit.int .u32 key).wf = true) :
    Calls Try.prog 11 #[Value.pointer (some ⟨sb, 0, none⟩), .int .u32 key] w (Done w sb S (removeE m key) (removeL m key)) := by
  unfold removeE removeL
  by_cases c2 : look m key = none
  · rw [if_pos c2, if_pos c2]; exact remove_no h hk c2
  · rw [if_neg c2, if_neg c2]
    obtain ⟨x, hx⟩ := Option.ne_none_iff_exists'.1 c2
    obtain ⟨_, rfl⟩ := Go.Proofs.Ytfkieieedljodaa.look_some hx
    exact remove_yes h hk hx
end Go.Proofs.Ytfkieieedljodaa
