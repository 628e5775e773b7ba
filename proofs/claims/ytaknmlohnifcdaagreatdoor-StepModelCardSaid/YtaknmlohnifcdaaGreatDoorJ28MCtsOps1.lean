import Derived.Test.YtaknmlohnifcdaaGreatDoorMCtsBod
import Derived.Test.YtaknmlohnifcdaaGreatDoorJ24MIntCon
import Derived.Test.YtaknmlohnifcdaaGreatDoorJ27MConOps1
import Derived.Test.YtaknmlohnifcdaaGreatDoorJ02MSeq
import Derived.Deep.DeepCutAuto
import Derived.Deep.RegionLaw
import Derived.Deep.QuietTactic
import Derived.BigQuiet
import Derived.Laws.MakeOwn
import Derived.OneCell
import Derived.StillTailTactics
set_option maxHeartbeats 4000000
set_option maxRecDepth 100000
section
namespace Go.Proofs.YtaknmlohnifcdaaGreatDoor
open Go.RowKit Go.Lib Go.Maps

theorem map_ne {w : World} {k : TypeId} {R : Value → Option (DataW Unit × List MemPlace)} {mb n tb oo : Nat} {D : DataW Unit} {v : Value} (h : w.ownsMap Tryz.prog k R mb n D) (h0 : w.cell? ⟨tb, oo, none⟩ = some v) : mb ≠ tb := by
 obtain ⟨es, clock, hc, F, hs, hD⟩ := h
 intro e
 subst e
 simp [World.cell?, hc] at h0
theorem map_blk {w w' : World} {k : TypeId} {R : Value → Option (DataW Unit × List MemPlace)} {b n : Nat} {D : DataW Unit} (h : w.ownsMap Tryz.prog k R b n D) (e : w'.heap[b]? = w.heap[b]?) : w'.ownsMap Tryz.prog k R b n D := by
 obtain ⟨es, clock, hc, F, hs, hD⟩ := h
 exact ⟨es, clock, e.trans hc, F, hs, hD⟩
structure CI (w1 wr : World) (cb mb n : Nat) (D : DataW Unit) (lv : Value) (M : List Ct) : Prop where
 kep : Kep w1.heap.size w1 wr
 lo : w1.heap.size ≤ cb
 map : OwnB wr mb n D
 c0 : wr.cell? ⟨cb, 0, none⟩ = some (.map (some mb))
 c1 : wr.cell? ⟨cb, 1, none⟩ = some lv
 f1 : wr.frozen? ⟨cb, 1, none⟩ = false
 row : wr.ownsRow w1.heap.size 77 5 lv M.length (M.flatMap ctv)
 ne : lv.ownBlock ≠ some cb
theorem CI.on {w1 wr w' : World} {cb mb n : Nat} {D : DataW Unit} {lv : Value} {M : List Ct} (h : CI w1 wr cb mb n D lv M) (g : Kep wr.heap.size wr w') : CI w1 w' cb mb n D lv M :=
 ⟨h.kep.trans (g.mono h.kep.size), h.lo, map_kep h.map g, g.all h.c0, g.all h.c1, kep_froz g (by rw [h.c1]; rfl) h.f1, own_kep h.row g (Nat.le_refl _), h.ne⟩
theorem CI.lt {w1 wr : World} {cb mb n : Nat} {D : DataW Unit} {lv : Value} {M : List Ct} (h : CI w1 wr cb mb n D lv M) : cb < wr.heap.size := World.block_lt_of_cell? _ _ h.c0
theorem CI.push {w1 wr wa w4 : World} {cb mb n g cap : Nat} {D : DataW Unit} {lv : Value} {M : List Ct} {x : Ct} (h : CI w1 wr cb mb n D lv M) (ga : Kep wr.heap.size wr wa)
 (h4 : w4.ownsRow w1.heap.size 77 5 (.slice (some ⟨g, 0, none⟩) (M.length + 1) cap) (M.length + 1) (M.flatMap ctv ++ ctv x)) (g4 : wa.grownBy w4 lv.ownBlock) (hat : lv.ownBlock = some g ∨ wr.heap.size ≤ g) :
 CI w1 (w4.setCell ⟨cb, 1, none⟩ (.slice (some ⟨g, 0, none⟩) (M.length + 1) cap)) cb mb n D (.slice (some ⟨g, 0, none⟩) (M.length + 1) cap) (M ++ [x]) := by
 have hlt := h.lt
 have hgc : g ≠ cb := fun e => by
  rcases hat with q | q
  ·exact h.ne (by rw [q, e])
  ·omega
 have bk : ∀ k, k < wr.heap.size → some k ≠ lv.ownBlock → w4.heap[k]? = wr.heap[k]? := fun k hk hn => by
  rw [g4.block k (Nat.lt_of_lt_of_le hk ga.size) hn, ga.block k hk]
 have hc := bk cb hlt (fun e => h.ne e.symm)
 have e0 : w4.cell? ⟨cb, 0, none⟩ = some (.map (some mb)) := (World.cell?_of_block hc).trans h.c0
 have e1 : w4.cell? ⟨cb, 1, none⟩ = some lv := (World.cell?_of_block hc).trans h.c1
 refine ⟨?_, h.lo, ?_, ?_, ?_, ?_, ?_, ?_⟩
 ·have k1 := h.kep.trans (ga.mono h.kep.size)
  exact (k1.row g4 k1.size (fun k e => (h.row.lt k e).1)).setCell h.lo _
 ·refine map_blk h.map ?_
  rw [Below.heap_setCell _ _ _ mb (fun e => map_ne h.map h.c0 e)]
  exact bk mb h.map.lt (own_map h.row h.map)
 ·rw [World.cell?_setCell_other (h := by intro e; injection e with _ e2; omega)]
  exact e0
 ·exact World.cell?_setCell_same' _ _ _ (by rw [e1]; rfl)
 ·rw [World.frozen?_setCell]
  exact (World.frozen?_of_block hc).trans h.f1
 ·have e : (M ++ [x]).flatMap ctv = M.flatMap ctv ++ ctv x := by simp
  rw [e, List.length_append]
  exact ownsRow_setCell_other h4 (by intro q; injection q with q; exact hgc q) _
 ·intro q
  injection q with q
  exact hgc q
theorem cadd {L : List Bd} (V : Vw L) {x y : Bd} (hx : x ∈ L) (hy : y ∈ L) (hlt : x.k < y.k) {w1 w : World} {cb mb n : Nat} {D : DataW Unit} {lv : Value} {M : List Ct} (h : CI w1 w cb mb n D lv M) (hM : BodM D L) (hm : M.length ≤ 1000) :
 Calls Tryz.prog 53 #[.pointer (some ⟨cb, 0, none⟩), .agg #[.int .u32 x.k, .int .u32 y.k]] w fun e w' => e = .returned (.tuple #[]) ∧ ∃ lv', CI w1 w' cb mb n D lv' (M ++ conP L (x.k, y.k)) := by
 have e := lowB_lt hlt
 have CO := qof (V.ok x hx) (V.ok y hy)
 rw [e.1, e.2] at CO
 have CO := Lib.hid CO
 have HP := Lib.hid (conP_at V.asc hx hy)
 have HCV : Hid (tchB x y = true → conV x y = conC x y) := Lib.hid (fun t => by unfold conV; rw [if_pos t])
 obtain ⟨W1, hW1⟩ : ∃ W1, W1 = w.alloc (.cells #[.int .u32 x.k, .int .u32 y.k] 75) := ⟨_, rfl⟩
 have p0 : W1.cell? ⟨w.heap.size, 0, none⟩ = some (.int .u32 x.k) := by rw [hW1, World.cell?_alloc_at _ _ _ _ rfl]; rfl
 have p1 : W1.cell? ⟨w.heap.size, 1, none⟩ = some (.int .u32 y.k) := by rw [hW1, World.cell?_alloc_at _ _ _ _ rfl]; rfl
 have h1 : CI w1 W1 cb mb n D lv M := h.on (by rw [hW1]; exact kep_more (Kep.refl _ _) _)
 have c0 := h1.c0
 have HI := Lib.hid h1
 have HL1 : Hid (∀ w', Kep W1.heap.size W1 w' → (Instr.lookup 90 (.map (some mb)) (.int .u32 x.k) false).run Tryz.prog w' = .ok (.agg #[.int .u32 x.k, .int .i32 x.r, .int .i32 x.ax, .int .i32 x.ay, .int .i32 x.m, .int .i32 x.o, .int .i32 x.px, .int .i32 x.py, .int .i32 x.vx, .int .i32 x.vy]) w') := Lib.hid fun w' g => bod_look (map_kep h1.map g) hM hx (V.key x hx)
 have HL2 : Hid (∀ w', Kep W1.heap.size W1 w' → (Instr.lookup 90 (.map (some mb)) (.int .u32 y.k) false).run Tryz.prog w' = .ok (.agg #[.int .u32 y.k, .int .i32 y.r, .int .i32 y.ax, .int .i32 y.ay, .int .i32 y.m, .int .i32 y.o, .int .i32 y.px, .int .i32 y.py, .int .i32 y.vx, .int .i32 y.vy]) w') := Lib.hid fun w' g => bod_look (map_kep h1.map g) hM hy (V.key y hy)
 have HW := Lib.hid hW1
 generalize hz : tchB x y = z at *
 generalize hv : conV x y = v at *
 generalize hc : conC x y = c at *
 obtain ⟨i0, hi, hz0, hz1, hz2⟩ := info_parts info_con
 have HIN := Lib.hid hi
 clear h h1 hM V hx hy hlt e hW1 hz hv hc hi
 go_enter Tryz.func53, Tryz.ntmps53
 go_upto_region 1 with fail
 rw [← HW.out]
 have gg : Kep W1.heap.size W1 W1 := Kep.refl _ _
 generalize w.heap.size = pb at *
 clear HW
 have hpb : pb < W1.heap.size := World.block_lt_of_cell? _ _ p0
 have hcb : cb < W1.heap.size := World.block_lt_of_cell? _ _ c0
 go_cut [4, 5] (fun s4 s5 wx => ∃ b, s4 = .pointer (some ⟨b, 0, none⟩) ∧ s5 = .bool z ∧ ZC wx b [.int .u32 v.lo, .int .u32 v.hi, .int .i32 v.nx, .int .i32 v.ny, .int .i32 v.dp] ∧ Kep W1.heap.size W1 wx)
 case first =>
  refine wp_region_noPanic ?_
  refine wp_region_held_drew (S := (fun w' => w'.cell? ⟨pb, 0, none⟩ = some (.int .u32 x.k) ∧ w'.cell? ⟨pb, 1, none⟩ = some (.int .u32 y.k) ∧ w'.cell? ⟨cb, 0, none⟩ = some (.map (some mb)) ∧ Kep W1.heap.size W1 w')) (by kernel_rfl) (⟨by rw [World.cell?_drew]; exact p0, by rw [World.cell?_drew]; exact p1, by rw [World.cell?_drew]; exact c0, kep_drew gg⟩) (fun hH => ?_)
  refine sT 0 hH ?_
  refine sT 1 hH ?_
  refine sN 2 hH ?_
  refine sT 3 hH ?_
  refine sT 4 hH ?_
  refine sT 5 hH ?_
  refine rtk 6 (oi := ⟨some 13, .lookup 90 (.tmp 10) (.tmp 12) false, _, _, _, none⟩) (v := ?_) rfl ?_ hH ?_
  rotate_left
  ·(intro w hSw; (try dsimp only at hSw); have q1 := HL1.out _ hSw.2.2.2; have q2 := HL2.out _ hSw.2.2.2; go_simp; (try with_reducible rfl))
  try simp only [Act.put, List.setIfInBounds_toArray, List.set_cons_zero, List.set_cons_succ]
  refine sT 7 hH ?_
  refine sT 8 hH ?_
  refine sT 9 hH ?_
  refine sN 10 hH ?_
  refine sT 11 hH ?_
  refine sT 12 hH ?_
  refine rtk 13 (oi := ⟨some 20, .lookup 90 (.tmp 17) (.tmp 19) false, _, _, _, none⟩) (v := ?_) rfl ?_ hH ?_
  rotate_left
  ·(intro w hSw; (try dsimp only at hSw); have q1 := HL1.out _ hSw.2.2.2; have q2 := HL2.out _ hSw.2.2.2; go_simp; (try with_reducible rfl))
  try simp only [Act.put, List.setIfInBounds_toArray, List.set_cons_zero, List.set_cons_succ]
  refine wpAnyH_ready (rs := [14, 18]) (by kernel_rfl) (by simp) ?_
  refine AllReadyH.cons (o := ⟨some 21, .call { callee := .value (.func 76), args := #[.tmp 13, .tmp 20], argTypes := #[40, 40] }, _, _, _, none⟩) rfl (fun K hK => ?_) (AllReadyH.cons (o := ⟨some 4, .alloc 77, _, _, _, none⟩) rfl (fun K hK => ?_) AllReadyH.nil)
  ·
   go_simp
   (with_reducible refine (CO.out _).mono ?_); rintro e v1_1 ⟨rfl, g⟩
   refine hK.out _ _ (by (try dsimp only); (go_split_ands; and_intros <;> first | exact g.all (by assumption) | exact kep_next (by assumption) g)) (fun hH2 => ?_)
   clear hK K hH; have hH := hH2; clear hH2
   refine sT 15 hH ?_
   refine sT 16 hH ?_
   refine sN 17 hH ?_
   refine sC 18 (fun K hK => ?_)
   go_simp
   have z1 : ZC (World.alloc (v1_1) (.cells #[.int .u32 0, .int .u32 0, .int .i32 0, .int .i32 0, .int .i32 0] 77)) (v1_1).heap.size [.int .u32 0, .int .u32 0, .int .i32 0, .int .i32 0, .int .i32 0] := zc_new _ _ _
   have z1b : W1.heap.size ≤ (v1_1).heap.size := by obtain ⟨p0, p1, c0, gg⟩ := id hH; exact gg.size
   refine hK.out _ _ (by (try dsimp only); (go_split_ands; exact ⟨Kep.all (kep_more (Kep.refl _ _) _) (by assumption), Kep.all (kep_more (Kep.refl _ _) _) (by assumption), Kep.all (kep_more (Kep.refl _ _) _) (by assumption), kep_more (by assumption) _⟩)) (fun hH2 => ?_)
   try simp only [World.size_drew] at z1 z1b
   have hH_z1 := hH
   clear hK K hH; have hH := hH2; clear hH2
   try simp only [Act.put, List.setIfInBounds_toArray, List.set_cons_zero, List.set_cons_succ]
   refine sC 19 (fun K hK => ?_)
   obtain ⟨p0, p1, c0, gg⟩ := id hH
   have z1q0 := z1.i (i := 0) rfl; have z1f0 := z1.frz 0
   have z1q1 := z1.i (i := 1) rfl; have z1f1 := z1.frz 1
   have z1q2 := z1.i (i := 2) rfl; have z1f2 := z1.frz 2
   have z1q3 := z1.i (i := 3) rfl; have z1f3 := z1.frz 3
   have z1q4 := z1.i (i := 4) rfl; have z1f4 := z1.frz 4
   go_simp
   have z1' : ZC (World.alloc (v1_1) (.cells #[.int .u32 v.lo, .int .u32 v.hi, .int .i32 v.nx, .int .i32 v.ny, .int .i32 v.dp] 77)) (v1_1).heap.size [.int .u32 v.lo, .int .u32 v.hi, .int .i32 v.nx, .int .i32 v.ny, .int .i32 v.dp] := zc_new _ _ _
   try simp only [World.size_drew] at z1'
   clear z1; have z1 := z1'; clear z1'
   refine hK.out _ _ (by (try dsimp only); obtain ⟨p0, p1, c0, gg⟩ := id hH_z1; exact ⟨Kep.all (kep_more (Kep.refl _ _) _) p0, Kep.all (kep_more (Kep.refl _ _) _) p1, Kep.all (kep_more (Kep.refl _ _) _) c0, kep_more gg _⟩) (fun hH2 => ?_)
   clear hH_z1
   clear hK K hH p0 p1 c0 gg z1q0 z1f0 z1q1 z1f1 z1q2 z1f2 z1q3 z1f3 z1q4 z1f4; have hH := hH2; clear hH2
   refine sN 20 hH ?_
   refine sE ?_
   obtain ⟨p0, p1, c0, gg⟩ := hH
   go_wp2_with fail
   go_meet
   exact ⟨_, rfl, rfl, z1, gg⟩
  ·
   go_simp
   have z1 : ZC (World.alloc (W1.drew) (.cells #[.int .u32 0, .int .u32 0, .int .i32 0, .int .i32 0, .int .i32 0] 77)) (W1.drew).heap.size [.int .u32 0, .int .u32 0, .int .i32 0, .int .i32 0, .int .i32 0] := zc_new _ _ _
   have z1b : W1.heap.size ≤ (W1.drew).heap.size := by obtain ⟨p0, p1, c0, gg⟩ := id hH; exact gg.size
   refine hK.out _ _ (by (try dsimp only); (go_split_ands; exact ⟨Kep.all (kep_more (Kep.refl _ _) _) (by assumption), Kep.all (kep_more (Kep.refl _ _) _) (by assumption), Kep.all (kep_more (Kep.refl _ _) _) (by assumption), kep_more (by assumption) _⟩)) (fun hH2 => ?_)
   try simp only [World.size_drew] at z1 z1b
   have hH_z1 := hH
   clear hK K hH; have hH := hH2; clear hH2
   try simp only [Act.put, List.setIfInBounds_toArray, List.set_cons_zero, List.set_cons_succ]
   refine sC 14 (fun K hK => ?_)
   go_simp
   (with_reducible refine (CO.out _).mono ?_); rintro e v1_2 ⟨rfl, g⟩
   replace z1 := z1.kep g
   refine hK.out _ _ (by (try dsimp only); (go_split_ands; and_intros <;> first | exact g.all (by assumption) | exact kep_next (by assumption) g)) (fun hH2 => ?_)
   clear hK K hH; have hH := hH2; clear hH2
   refine sT 15 hH ?_
   refine sT 16 hH ?_
   refine sN 17 hH ?_
   refine sC 19 (fun K hK => ?_)
   obtain ⟨p0, p1, c0, gg⟩ := id hH
   have z1q0 := z1.i (i := 0) rfl; have z1f0 := z1.frz 0
   have z1q1 := z1.i (i := 1) rfl; have z1f1 := z1.frz 1
   have z1q2 := z1.i (i := 2) rfl; have z1f2 := z1.frz 2
   have z1q3 := z1.i (i := 3) rfl; have z1f3 := z1.frz 3
   have z1q4 := z1.i (i := 4) rfl; have z1f4 := z1.frz 4
   go_simp
   have hst : (fun w' => w'.cell? ⟨pb, 0, none⟩ = some (.int .u32 x.k) ∧ w'.cell? ⟨pb, 1, none⟩ = some (.int .u32 y.k) ∧ w'.cell? ⟨cb, 0, none⟩ = some (.map (some mb)) ∧ Kep W1.heap.size W1 w') (setAll (v1_2) ((W1).heap.size) 0 [.int .u32 v.lo, .int .u32 v.hi, .int .i32 v.nx, .int .i32 v.ny, .int .i32 v.dp]) := ⟨setAll_far _ _ _ _ (by first | omega | (simp; done) | (simp; omega)) p0, setAll_far _ _ _ _ (by first | omega | (simp; done) | (simp; omega)) p1, setAll_far _ _ _ _ (by first | omega | (simp; done) | (simp; omega)) c0, kep_setAll (by first | omega | (have := gg.size; simp at *; omega)) _ _ gg⟩
   replace z1 := z1.set [.int .u32 v.lo, .int .u32 v.hi, .int .i32 v.nx, .int .i32 v.ny, .int .i32 v.dp] (by simp)
   simp only [setAll, Nat.zero_add, Nat.reduceAdd] at hst z1
   refine hK.out _ _ hst (fun hH2 => ?_)
   clear hst
   clear hK K hH p0 p1 c0 gg z1q0 z1f0 z1q1 z1f1 z1q2 z1f2 z1q3 z1f3 z1q4 z1f4; have hH := hH2; clear hH2
   refine sN 20 hH ?_
   refine sE ?_
   obtain ⟨p0, p1, c0, gg⟩ := hH
   go_wp2_with fail
   go_meet
   exact ⟨_, rfl, rfl, z1, gg⟩
 case rest =>
  obtain ⟨b, rfl, rfl, zc, gc⟩ := hcut
  have h2 := HI.out.on gc
  have c1 := h2.c1
  have f1 := h2.f1
  have hlt := h2.lt
  have hn := h2.ne
  have HJ := Lib.hid h2
  clear HI gc c0 p0 p1 h2 HL1 HL2 CO
  cases z with
  | false =>
    go_wp2_with fail
    go_end0
    rw [HP.out, if_neg (by simp), List.append_nil]
    exact ⟨rfl, _, HJ.out⟩
  | true =>
    have e := HCV.out rfl
    subst e
    have y0 := zc.i (i := 0) rfl
    have y1 := zc.i (i := 1) rfl
    have y2 := zc.i (i := 2) rfl
    have y3 := zc.i (i := 3) rfl
    have y4 := zc.i (i := 4) rfl
    clear zc
    go_upto_region 3 with fail
    have AO : Hid (∀ ob, (wc.drew.alloc ob).ownsRow w1.heap.size 77 5 lv M.length (M.flatMap ctv)) := Lib.hid (fun ob => ((HJ.out.row).drew).alloc ob)
    have hn2 : some cb ≠ lv.ownBlock := fun e => hn e.symm
    have d1 : ∀ ob, (wc.drew.alloc ob).cell? ⟨cb, 1, none⟩ = some lv := fun ob => by rw [World.cell?_alloc_past _ _ _ (by simpa using hlt), World.cell?_drew]; exact c1
    have e1 : ∀ ob, (wc.drew.alloc ob).frozen? ⟨cb, 1, none⟩ = false := fun ob => by rw [World.frozen?_alloc_past _ _ _ (by simpa using hlt), World.frozen?_drew]; exact f1
    go_region_law ((refine step_append_lies _ (by rfl) _ _ 50 (by rfl) w1.heap.size 77 i0 (.agg #[.int .u32 0, .int .u32 0, .int .i32 0, .int .i32 0, .int .i32 0]) 5 20 Tryz.underlying50 HIN.out hz0 hz1 hz2 rfl (by decide) lv M.length (M.flatMap ctv) (by rfl) (AO.out _) ⟨wc.heap.size, 0, none⟩ 1 1 [.int .u32 v.lo, .int .u32 v.hi, .int .i32 v.nx, .int .i32 v.ny, .int .i32 v.dp] (by rfl) (by rfl) (World.news_of_block (cs := #[.int .u32 v.lo, .int .u32 v.hi, .int .i32 v.nx, .int .i32 v.ny, .int .i32 v.dp]) (t := 77) (fr := (0, 0)) (heap_alloc_new wc.drew _)) (by simp [Value.oneCell']) (by decide) (by unfold maxLen; omega) (by omega) (by have := HJ.out.kep.size; simp; omega) (wc.heap.size + 1) (by simp) ?_; intro g cap' w4 hown hgrow hat hlt2; have d2 := hgrow.cell (d1 _) hn2; have e2 : w4.frozen? ⟨cb, 1, none⟩ = false := (hgrow.frozen_far _ (World.block_lt_of_cell? _ _ (d1 _)) hn2).trans (e1 _)))
    all_goals go_wp2_with fail
    all_goals go_end0
    all_goals have h5 := CI.push (x := v) HJ.out (by first | exact kep_drew (kep_more (Kep.refl _ _) _) | exact kep_more (kep_drew (Kep.refl _ _)) _) hown hgrow (hat.imp id (fun e => by omega))
    all_goals exact ⟨rfl, _, by rw [HP.out, if_pos trivial]; exact h5⟩
end Go.Proofs.YtaknmlohnifcdaaGreatDoor
end
section
namespace Go.Proofs.YtaknmlohnifcdaaGreatDoor
open Go.RowKit Go.Lib Go.Maps

theorem ceach {L : List Bd} (V : Vw L) {v : Value} {w1 w : World} (hv : Sq pv 2 w1 v (pairsL L)) {cb mb n : Nat} {D : DataW Unit} {lv : Value} (h : CI w1 w cb mb n D lv []) (hM : BodM D L) :
 Calls Tryz.prog 52 #[v, .func (.func 53) #[.pointer (some ⟨cb, 0, none⟩)] #[]] w fun e w' => e = .returned (.tuple #[]) ∧ ∃ lv', CI w1 w' cb mb n D lv' (consL L) := by
 have hlen := pairs_max V.len
 have HALL := Lib.hid (conP_all V.asc (fun x hx => okc_of V x hx))
 have HCE : Hid (∀ p ∈ pairsL L, ∃ x ∈ L, ∃ y ∈ L, x.k < y.k ∧ p = (x.k, y.k)) := Lib.hid fun p hp => by
  obtain ⟨x, hx, y, hy, h1, _, h2⟩ := (pairs_mem V.asc p).1 hp
  exact ⟨x, hx, y, hy, h1, h2⟩
 have HL := Lib.hid (conP_len L)
 obtain ⟨base, cap, rfl, hc⟩ := hv
 have HC := Lib.hid hc
 have HV := Lib.hid V
 have HM := Lib.hid hM
 have H0 := Lib.hid h
 clear hc V hM h
 generalize pairsL L = C at *
 generalize hl : C.length = nc at *
 have HN := Lib.hid hl
 clear hl
 go_enter Tryz.func52, Tryz.ntmps52
 go_wp2_with fail
 go_loopw [8] (fun i wr => ∃ j : Nat, j ≤ nc ∧ i = .int .i64 j ∧ Hid (∃ lv, CI w1 wr cb mb n D lv ((C.take j).flatMap (conP L)))) (fun i _ => nc - (RowKit.intOf i).toNat)
 case atStart => exact ⟨0, by omega, rfl, Lib.hid ⟨lv, by rw [List.take_zero]; exact H0.out⟩⟩
 case round =>
  obtain ⟨j, hj, rfl, HP⟩ := hrel
  by_cases hlt : j < nc
  ·have hb : C[j]? = some (C[j]'(by rw [HN.out]; exact hlt)) := List.getElem?_eq_getElem _
   generalize C[j]'(by rw [HN.out]; exact hlt) = p at hb
   obtain ⟨x, hx, y, hy, hxy, rfl⟩ := HCE.out p (List.mem_of_getElem? hb)
   obtain ⟨gl, off, rfl, qx⟩ := HC.out j _ hb
   obtain ⟨lw, hci⟩ := HP.out
   have s0 : wr.cell? ⟨gl, off + j * 2, none⟩ = some (.int .u32 x.k) := hci.kep.all (qx 0 _ rfl)
   have s1 : wr.cell? ⟨gl, off + j * 2 + 1, none⟩ = some (.int .u32 y.k) := hci.kep.all (qx 1 _ rfl)
   have hml := HL.out (C.take j)
   rw [List.length_take] at hml
   have HST := Lib.hid (conP_snoc (L := L) hb)
   have CA : Hid (Calls Tryz.prog 53 #[.pointer (some ⟨cb, 0, none⟩), .agg #[.int .u32 x.k, .int .u32 y.k]] (wr.alloc (.cells #[.int .u32 x.k, .int .u32 y.k] 75)) fun e w' => e = .returned (.tuple #[]) ∧ Hid (∃ lv', CI w1 w' cb mb n D lv' ((C.take (j + 1)).flatMap (conP L)))) := Lib.hid (by
    refine (cadd HV.out hx hy hxy (hci.on (kep_more (Kep.refl _ _) _)) HM.out (by omega)).mono ?_
    rintro e w' ⟨he, lv', h'⟩
    exact ⟨he, Lib.hid ⟨lv', by rw [HST.out]; exact h'⟩⟩)
   clear hb qx hci hx hy hxy hml HP HST
   have i0 : (0 : Int) ≤ (j : Int) := Int.natCast_nonneg _
   have i1 : (j : Int) < (nc : Int) := by omega
   go_wp2_with ((with_reducible refine (CA.out).mono ?_); rintro e w4 ⟨rfl, F4⟩)
   go_roundw
   case rel => exact ⟨j + 1, by omega, by first | rfl | go_num, F4⟩
   case measure => simp [RowKit.intOf]; omega
  ·have i2 : ¬ (j : Int) < (nc : Int) := by omega
   obtain rfl : j = nc := by omega
   have HQ := Lib.hid HP.out
   clear HP
   go_wp2_with fail
   go_end0
   obtain ⟨lw, hci⟩ := HQ.out
   rw [List.take_of_length_le (Nat.le_of_eq HN.out), HALL.out] at hci
   exact ⟨rfl, lw, hci⟩
end Go.Proofs.YtaknmlohnifcdaaGreatDoor
end
