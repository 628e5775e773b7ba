import Derived.Test.YtaknmlohnifcdaaGreatDoorJ24MIntCon
import Derived.Test.YtaknmlohnifcdaaGreatDoorJ02MSeq
import Derived.Test.YtaknmlohnifcdaaGreatDoorMBodyOps
import Derived.Deep.DeepCutAuto
import Derived.Deep.QuietTactic
import Derived.BigQuiet
import Derived.Laws.MakeOwn
import Derived.Laws.OwnMore
set_option maxHeartbeats 4000000
set_option maxRecDepth 100000
namespace Go.Proofs.YtaknmlohnifcdaaGreatDoor
open Go.RowKit Go.Lib
structure Flg (w w' : World) (cb : Nat) (z : Bool) : Prop where
 fr : FrO cb cb w w'
 c : w'.cell? ⟨cb, 0, none⟩ = some (.bool z)
 f : w'.frozen? ⟨cb, 0, none⟩ = false
theorem Flg.kep {w w' w'' : World} {cb : Nat} {z : Bool} (h : Flg w w' cb z) (g : Kep w'.heap.size w' w'') : Flg w w'' cb z := ⟨h.fr.kep g, g.all h.c, kep_froz g (by rw [h.c]; rfl) h.f⟩
theorem Flg.trans {w w' w'' : World} {cb : Nat} {z y : Bool} (h : Flg w w' cb z) (k : Flg w' w'' cb y) : Flg w w'' cb y := ⟨h.fr.trans k.fr, k.c, k.f⟩
theorem Flg.self {w : World} {cb : Nat} {z : Bool} (c : w.cell? ⟨cb, 0, none⟩ = some (.bool z)) (f : w.frozen? ⟨cb, 0, none⟩ = false) : Flg w w cb z := ⟨.refl _ _ _, c, f⟩
theorem flg_set {w : World} {cb : Nat} {z y : Bool} (c : w.cell? ⟨cb, 0, none⟩ = some (.bool z)) (f : w.frozen? ⟨cb, 0, none⟩ = false) : Flg w (w.setCell ⟨cb, 0, none⟩ (.bool y)) cb y := ⟨(FrO.refl _ _ _).set1 _, World.cell?_setCell_same' _ _ _ (by rw [c]; rfl), sset_froz f⟩
theorem ylim {x y m a b : Int} {z c d : Bool} {fb cb : Nat} (h1 : IntKind.i32.wrap a = a) (h2 : IntKind.i32.wrap b = b) (X1 : Lim2 x m a) (X2 : Lim2 y m b) (hc : (a != x) = c) (hd : (b != y) = d) (w : World) (p0 : w.cell? ⟨fb, 0, none⟩ = some (.pointer (some ⟨cb, 0, none⟩))) (c0 : w.cell? ⟨cb, 0, none⟩ = some (.bool z)) (f0 : w.frozen? ⟨cb, 0, none⟩ = false) :
 Calls Tryz.prog 57 #[.int .i64 x, .int .i64 y, .int .i64 m, .slice (some ⟨fb, 0, none⟩) 1 1] w fun e w' => e = .returned (.agg #[.int .i32 a, .int .i32 b]) ∧ Flg w w' cb (z || c || d) := by
 simp only [Lim2, hc] at X1
 simp only [Lim2, hd] at X2
 have C1 := Lib.hid X1
 have C2 := Lib.hid X2
 have l1 := World.block_lt_of_cell? _ _ p0
 have l2 := World.block_lt_of_cell? _ _ c0
 have HF := Lib.hid (fun y => flg_set (y := y) c0 f0)
 dsimp only at l1 l2
 clear X1 X2 hc hd
 cases z <;> cases c <;>
 ·go_enter Tryz.func57, Tryz.ntmps57
  go_wp2_with (first
   | ((with_reducible refine (C1.out _).mono ?_); rintro e w1 ⟨rfl, rfl⟩)
   | ((with_reducible refine (C2.out _).mono ?_); rintro e w2 ⟨rfl, rfl⟩))
  refine wp_loop_rounds 2 ?_
  rw [rounds_succ]
  go_wp2_with fail
  rw [rounds_succ]
  go_wp2_with fail
  exact bodyPost_ret (v := .agg #[.int .i32 a, .int .i32 b]) (by simp [results, Tryz.results57, go_sem]) rfl ⟨rfl, (HF.out _).kep (kep_more (Kep.refl _ _) _)⟩
theorem Flg.far {w w' : World} {cb b : Nat} {z : Bool} (h : Flg w w' cb z) (hb : w.heap.size ≤ b) (n : b ≠ cb) (i : Nat) (u : Value) : Flg w (w'.setCell ⟨b, i, none⟩ u) cb z :=
 ⟨⟨h.fr.os, h.fr.output, by rw [World.size_setCell]; exact h.fr.size, fun k hk n1 n2 => by rw [Below.heap_setCell _ _ _ k (fun e => by dsimp only at e; omega)]; exact h.fr.block k hk n1 n2⟩, sset_far h.c n, sset_froz h.f⟩
theorem Flg.sets {w : World} {cb b : Nat} {z : Bool} (hb : w.heap.size ≤ b) (n : b ≠ cb) : ∀ (l : List Value) (o : Nat) {w' : World}, Flg w w' cb z → Flg w (setAll w' b o l) cb z
 | [], _, _, h => h
 | u :: l, o, _, h => by
   unfold setAll
   exact Flg.sets hb n l (o + 1) (h.far hb n o u)
theorem Flg.at_ {w w' : World} {cb : Nat} {z : Bool} (c : w.cell? ⟨cb, 0, none⟩ = some (.bool z)) (f : w.frozen? ⟨cb, 0, none⟩ = false) (g : Kep w.heap.size w w') : Flg w w' cb z := (Flg.self c f).kep g
abbrev KSt (x : Bd) (c : Bool) : Prop := ∀ w, Calls Tryz.prog 56 #[.agg #[.int .u32 x.k, .int .i32 x.r, .int .i32 x.ax, .int .i32 x.ay, .int .i32 x.m, .int .i32 x.o, .int .i32 x.px, .int .i32 x.py, .int .i32 x.vx, .int .i32 x.vy]] w fun e w' => e = .returned (.bool c) ∧ Kep w.heap.size w w'
theorem kst (x : Bd) {c : Bool} (h : decide (x.m = 0) = c) : KSt x c := fun w => kep_calls (sta x.k x.r x.ax x.ay x.m x.o x.px x.py x.vx x.vy c h w)
abbrev KLm (x y m a b : Int) (c : Bool) : Prop := ∀ (z : Bool) (fb cb : Nat) (w : World), w.cell? ⟨fb, 0, none⟩ = some (.pointer (some ⟨cb, 0, none⟩)) → w.cell? ⟨cb, 0, none⟩ = some (.bool z) → w.frozen? ⟨cb, 0, none⟩ = false → Calls Tryz.prog 57 #[.int .i64 x, .int .i64 y, .int .i64 m, .slice (some ⟨fb, 0, none⟩) 1 1] w fun e w' => e = .returned (.agg #[.int .i32 a, .int .i32 b]) ∧ Flg w w' cb (z || c)
abbrev KEl (f : Nat) (fr : Array Value) (k : Int) (x y : Bd) (c : Bool) (cb : Nat) (w : World) : Prop := ∀ z : Bool, w.cell? ⟨cb, 0, none⟩ = some (.bool z) → w.frozen? ⟨cb, 0, none⟩ = false → Calls Tryz.prog f (#[.int .i64 k, .agg #[.int .u32 x.k, .int .i32 x.r, .int .i32 x.ax, .int .i32 x.ay, .int .i32 x.m, .int .i32 x.o, .int .i32 x.px, .int .i32 x.py, .int .i32 x.vx, .int .i32 x.vy]] ++ fr) w fun e w' => e = .returned (.agg #[.int .u32 y.k, .int .i32 y.r, .int .i32 y.ax, .int .i32 y.ay, .int .i32 y.m, .int .i32 y.o, .int .i32 y.px, .int .i32 y.py, .int .i32 y.vx, .int .i32 y.vy]) ∧ Flg w w' cb (z || c)
theorem yg1 {x : Bd} {k a b : Int} {c : Bool} {cb : Nat} (hm : decide (x.m = 0) = false) (h1 : IntKind.i64.wrap x.vx = x.vx) (h2 : IntKind.i64.wrap x.vy = x.vy) (h3 : IntKind.i64.wrap (x.vy - 1024) = grvY x) (X : KLm x.vx (grvY x) 16777216 a b c) (z : Bool) (w : World) (c0 : w.cell? ⟨cb, 0, none⟩ = some (.bool z)) (f0 : w.frozen? ⟨cb, 0, none⟩ = false) :
 Calls Tryz.prog 55 #[.int .i64 k, .agg #[.int .u32 x.k, .int .i32 x.r, .int .i32 x.ax, .int .i32 x.ay, .int .i32 x.m, .int .i32 x.o, .int .i32 x.px, .int .i32 x.py, .int .i32 x.vx, .int .i32 x.vy], .pointer (some ⟨cb, 0, none⟩)] w fun e w' => e = .returned (.agg #[.int .u32 (velB x a b).k, .int .i32 (velB x a b).r, .int .i32 (velB x a b).ax, .int .i32 (velB x a b).ay, .int .i32 (velB x a b).m, .int .i32 (velB x a b).o, .int .i32 (velB x a b).px, .int .i32 (velB x a b).py, .int .i32 (velB x a b).vx, .int .i32 (velB x a b).vy]) ∧ Flg w w' cb (z || c) := by
 have C1 := Lib.hid (kst x hm)
 have C3 := Lib.hid X
 have l0 := World.block_lt_of_cell? _ _ c0
 dsimp only at l0
 clear X hm
 go_enter Tryz.func55, Tryz.ntmps55
 go_upto_region 2 with (first
  | ((with_reducible refine (C1.out _).mono ?_); rintro e w1 ⟨rfl, g1⟩
     have gg := kep_next (kep_more (kep_more (Kep.refl _ _) _) _) g1
     have Zb : ZC w1 w.heap.size [.int .u32 x.k, .int .i32 x.r, .int .i32 x.ax, .int .i32 x.ay, .int .i32 x.m, .int .i32 x.o, .int .i32 x.px, .int .i32 x.py, .int .i32 x.vx, .int .i32 x.vy] := ZC.kep (ZC.more (zc_new' _ _ _ (by first | rfl | simp)) _) g1
     have Zr : ZC w1 (w.heap.size + 1) [.int .u32 0, .int .i32 0, .int .i32 0, .int .i32 0, .int .i32 0, .int .i32 0, .int .i32 0, .int .i32 0, .int .i32 0, .int .i32 0] := ZC.kep (zc_new' _ _ _ (by first | rfl | simp)) g1))
 have c1 := gg.all c0
 have f1 := kep_froz gg (by rw [c0]; rfl) f0
 have FG := Lib.hid (Flg.at_ c0 f0 gg)
 have hl := gg.size
 have x8 := Zb.i (i := 8) rfl
 have x9 := Zb.i (i := 9) rfl
 have zb := Zb.lt
 have n1 : w.heap.size ≠ cb := by omega
 have n2 : w.heap.size + 1 ≠ cb := by omega
 clear c0 f0
 go_upto_region 3 with (first
  | ((with_reducible refine (C3.out z _ cb _ ?_ ?_ ?_).mono ?_)
     ·exact (zc_new _ _ _).i (i := 0) rfl
     ·exact (kep_more (Kep.refl _ _) _).all c1
     ·exact kep_froz (kep_more (Kep.refl _ _) _) (by rw [c1]; rfl) f1
     rintro e w2 ⟨rfl, h2⟩
     replace Zb := h2.fr.zc n1 n1 (Zb.more _)
     replace Zr := h2.fr.zc n2 n2 (Zr.more _)
     have q8 := Zb.frz 8
     have q9 := Zb.frz 9
     have FG2 := Lib.hid ((FG.out.kep (kep_more (Kep.refl _ _) _)).trans h2)
     clear FG h2 x8 x9 zb; have x8 := Zb.i (i := 8) rfl; have x9 := Zb.i (i := 9) rfl; have zb := Zb.lt))
 generalize hV : World.setCell _ _ _ = V
 replace Zb : ZC V (w.heap.size) [.int .u32 x.k, .int .i32 x.r, .int .i32 x.ax, .int .i32 x.ay, .int .i32 x.m, .int .i32 x.o, .int .i32 x.px, .int .i32 x.py, .int .i32 a, .int .i32 b] := by rw [← hV]; exact (Zb.put (i := 8) _ (by simp)).put (i := 9) _ (by simp)
 replace Zr : ZC V (w.heap.size + 1) [.int .u32 0, .int .i32 0, .int .i32 0, .int .i32 0, .int .i32 0, .int .i32 0, .int .i32 0, .int .i32 0, .int .i32 0, .int .i32 0] := by rw [← hV]; exact (Zr.far1 (by omega) _).far1 (by omega) _
 replace FG2 := Lib.hid (show Flg w V cb (z || c) by rw [← hV]; exact (FG2.out.far (by omega) n1 _ _).far (by omega) n1 _ _)
 clear hV x8 x9 q8 q9 c1 f1
 have Za := za_of Zb
 have r0 := Zr.i (i := 0) rfl
 have r1 := Zr.i (i := 1) rfl
 have r2 := Zr.i (i := 2) rfl
 have r3 := Zr.i (i := 3) rfl
 have r4 := Zr.i (i := 4) rfl
 have r5 := Zr.i (i := 5) rfl
 have r6 := Zr.i (i := 6) rfl
 have r7 := Zr.i (i := 7) rfl
 have r8 := Zr.i (i := 8) rfl
 have r9 := Zr.i (i := 9) rfl
 have fr0 : V.frozen? ⟨w.heap.size + 1, 0, none⟩ = false := Zr.frz 0
 have fr1 : V.frozen? ⟨w.heap.size + 1, 1, none⟩ = false := Zr.frz 1
 have fr2 : V.frozen? ⟨w.heap.size + 1, 2, none⟩ = false := Zr.frz 2
 have fr3 : V.frozen? ⟨w.heap.size + 1, 3, none⟩ = false := Zr.frz 3
 have fr4 : V.frozen? ⟨w.heap.size + 1, 4, none⟩ = false := Zr.frz 4
 have fr5 : V.frozen? ⟨w.heap.size + 1, 5, none⟩ = false := Zr.frz 5
 have fr6 : V.frozen? ⟨w.heap.size + 1, 6, none⟩ = false := Zr.frz 6
 have fr7 : V.frozen? ⟨w.heap.size + 1, 7, none⟩ = false := Zr.frz 7
 have fr8 : V.frozen? ⟨w.heap.size + 1, 8, none⟩ = false := Zr.frz 8
 have fr9 : V.frozen? ⟨w.heap.size + 1, 9, none⟩ = false := Zr.frz 9
 have zr := Zr.lt
 go_wp2_with fail
 have hst := Zr.set [.int .u32 x.k, .int .i32 x.r, .int .i32 x.ax, .int .i32 x.ay, .int .i32 x.m, .int .i32 x.o, .int .i32 x.px, .int .i32 x.py, .int .i32 a, .int .i32 b] (by simp)
 simp only [setAll, Nat.zero_add, Nat.reduceAdd] at hst
 have hst0 := hst.i (i := 0) rfl
 have hst1 := hst.i (i := 1) rfl
 have hst2 := hst.i (i := 2) rfl
 have hst3 := hst.i (i := 3) rfl
 have hst4 := hst.i (i := 4) rfl
 have hst5 := hst.i (i := 5) rfl
 have hst6 := hst.i (i := 6) rfl
 have hst7 := hst.i (i := 7) rfl
 have hst8 := hst.i (i := 8) rfl
 have hst9 := hst.i (i := 9) rfl
 exact bodyPost_ret (v := .agg #[.int .u32 x.k, .int .i32 x.r, .int .i32 x.ax, .int .i32 x.ay, .int .i32 x.m, .int .i32 x.o, .int .i32 x.px, .int .i32 x.py, .int .i32 a, .int .i32 b]) (by simp [results, Tryz.results55, go_sem, hst0, hst1, hst2, hst3, hst4, hst5, hst6, hst7, hst8, hst9]) rfl ⟨rfl, Flg.sets (b := w.heap.size + 1) (by omega) n2 [.int .u32 x.k, .int .i32 x.r, .int .i32 x.ax, .int .i32 x.ay, .int .i32 x.m, .int .i32 x.o, .int .i32 x.px, .int .i32 x.py, .int .i32 a, .int .i32 b] 0 FG2.out⟩
theorem yg0 {x : Bd} {k : Int} {cb : Nat} (hm : decide (x.m = 0) = true) (z : Bool) (w : World) (c0 : w.cell? ⟨cb, 0, none⟩ = some (.bool z)) (f0 : w.frozen? ⟨cb, 0, none⟩ = false) :
 Calls Tryz.prog 55 #[.int .i64 k, .agg #[.int .u32 x.k, .int .i32 x.r, .int .i32 x.ax, .int .i32 x.ay, .int .i32 x.m, .int .i32 x.o, .int .i32 x.px, .int .i32 x.py, .int .i32 x.vx, .int .i32 x.vy], .pointer (some ⟨cb, 0, none⟩)] w fun e w' => e = .returned (.agg #[.int .u32 x.k, .int .i32 x.r, .int .i32 x.ax, .int .i32 x.ay, .int .i32 x.m, .int .i32 x.o, .int .i32 x.px, .int .i32 x.py, .int .i32 x.vx, .int .i32 x.vy]) ∧ Flg w w' cb z := by
 have C1 := Lib.hid (kst x hm)
 have l0 := World.block_lt_of_cell? _ _ c0
 dsimp only at l0
 clear hm
 go_enter Tryz.func55, Tryz.ntmps55
 go_upto_region 3 with (first
  | ((with_reducible refine (C1.out _).mono ?_); rintro e V ⟨rfl, g1⟩
     have gg := kep_next (kep_more (kep_more (Kep.refl _ _) _) _) g1
     have Zb : ZC V w.heap.size [.int .u32 x.k, .int .i32 x.r, .int .i32 x.ax, .int .i32 x.ay, .int .i32 x.m, .int .i32 x.o, .int .i32 x.px, .int .i32 x.py, .int .i32 x.vx, .int .i32 x.vy] := ZC.kep (ZC.more (zc_new' _ _ _ (by first | rfl | simp)) _) g1
     have Zr : ZC V (w.heap.size + 1) [.int .u32 0, .int .i32 0, .int .i32 0, .int .i32 0, .int .i32 0, .int .i32 0, .int .i32 0, .int .i32 0, .int .i32 0, .int .i32 0] := ZC.kep (zc_new' _ _ _ (by first | rfl | simp)) g1))
 have FG2 := Lib.hid (Flg.at_ c0 f0 gg)
 have hl := gg.size
 have n2 : w.heap.size + 1 ≠ cb := by omega
 clear c0 f0
 have Za := za_of Zb
 have r0 := Zr.i (i := 0) rfl
 have r1 := Zr.i (i := 1) rfl
 have r2 := Zr.i (i := 2) rfl
 have r3 := Zr.i (i := 3) rfl
 have r4 := Zr.i (i := 4) rfl
 have r5 := Zr.i (i := 5) rfl
 have r6 := Zr.i (i := 6) rfl
 have r7 := Zr.i (i := 7) rfl
 have r8 := Zr.i (i := 8) rfl
 have r9 := Zr.i (i := 9) rfl
 have fr0 : V.frozen? ⟨w.heap.size + 1, 0, none⟩ = false := Zr.frz 0
 have fr1 : V.frozen? ⟨w.heap.size + 1, 1, none⟩ = false := Zr.frz 1
 have fr2 : V.frozen? ⟨w.heap.size + 1, 2, none⟩ = false := Zr.frz 2
 have fr3 : V.frozen? ⟨w.heap.size + 1, 3, none⟩ = false := Zr.frz 3
 have fr4 : V.frozen? ⟨w.heap.size + 1, 4, none⟩ = false := Zr.frz 4
 have fr5 : V.frozen? ⟨w.heap.size + 1, 5, none⟩ = false := Zr.frz 5
 have fr6 : V.frozen? ⟨w.heap.size + 1, 6, none⟩ = false := Zr.frz 6
 have fr7 : V.frozen? ⟨w.heap.size + 1, 7, none⟩ = false := Zr.frz 7
 have fr8 : V.frozen? ⟨w.heap.size + 1, 8, none⟩ = false := Zr.frz 8
 have fr9 : V.frozen? ⟨w.heap.size + 1, 9, none⟩ = false := Zr.frz 9
 have zr := Zr.lt
 go_wp2_with fail
 have hst := Zr.set [.int .u32 x.k, .int .i32 x.r, .int .i32 x.ax, .int .i32 x.ay, .int .i32 x.m, .int .i32 x.o, .int .i32 x.px, .int .i32 x.py, .int .i32 x.vx, .int .i32 x.vy] (by simp)
 simp only [setAll, Nat.zero_add, Nat.reduceAdd] at hst
 have hst0 := hst.i (i := 0) rfl
 have hst1 := hst.i (i := 1) rfl
 have hst2 := hst.i (i := 2) rfl
 have hst3 := hst.i (i := 3) rfl
 have hst4 := hst.i (i := 4) rfl
 have hst5 := hst.i (i := 5) rfl
 have hst6 := hst.i (i := 6) rfl
 have hst7 := hst.i (i := 7) rfl
 have hst8 := hst.i (i := 8) rfl
 have hst9 := hst.i (i := 9) rfl
 exact bodyPost_ret (v := .agg #[.int .u32 x.k, .int .i32 x.r, .int .i32 x.ax, .int .i32 x.ay, .int .i32 x.m, .int .i32 x.o, .int .i32 x.px, .int .i32 x.py, .int .i32 x.vx, .int .i32 x.vy]) (by simp [results, Tryz.results55, go_sem, hst0, hst1, hst2, hst3, hst4, hst5, hst6, hst7, hst8, hst9]) rfl ⟨rfl, Flg.sets (b := w.heap.size + 1) (by omega) n2 [.int .u32 x.k, .int .i32 x.r, .int .i32 x.ax, .int .i32 x.ay, .int .i32 x.m, .int .i32 x.o, .int .i32 x.px, .int .i32 x.py, .int .i32 x.vx, .int .i32 x.vy] 0 FG2.out⟩
theorem lim_eq {n l : Int} (h : -l ≤ n ∧ n ≤ l) : lim n l = n := by unfold lim; omega
theorem klm {x y m a b : Int} {c : Bool} (ha : -2147483648 ≤ a ∧ a < 2147483648) (hb : -2147483648 ≤ b ∧ b < 2147483648) (X1 : Lim2 x m a) (X2 : Lim2 y m b) (hc : ((a != x) || (b != y)) = c) : KLm x y m a b c := fun z fb cb w p0 c0 f0 => by
 have := ylim (by rw [IntKind.wrap_i32]; omega) (by rw [IntKind.wrap_i32]; omega) X1 X2 rfl rfl w p0 c0 f0
 rw [Bool.or_assoc, hc] at this
 exact this
theorem yg {x : Bd} {k : Int} {cb : Nat} (h : okI x) (w : World) : KEl 55 #[.pointer (some ⟨cb, 0, none⟩)] k x (grvB x) (grvC x) cb w := fun z c0 f0 => by
 have vb := vb_of h
 have m0 := vb.m0
 have vx0 := vb.vx0; have vx1 := vb.vx1; have vy0 := vb.vy0; have vy1 := vb.vy1
 have gb := grvY_bd vb
 by_cases hm : x.m = 0
 ·have e1 : grvB x = x := if_neg (by omega)
  have e2 : grvC x = false := by unfold grvC; rw [decide_eq_false (by omega), Bool.false_and]
  rw [e1, e2, Bool.or_false]
  exact yg0 (decide_eq_true hm) z w c0 f0
 ·have e1 : grvB x = velB x x.vx (limJ (grvY x)) := if_pos (by omega)
  have e2 : ((x.vx != x.vx) || (limJ (grvY x) != grvY x)) = grvC x := by
   unfold grvC
   rw [decide_eq_true (show 0 < x.m by omega), Bool.eq_iff_iff]
   simp [bne_iff_ne]
  rw [e1]
  have b := limJ_bd (grvY x)
  exact yg1 (a := x.vx) (b := limJ (grvY x)) (decide_eq_false hm) (by rw [IntKind.wrap_i64]; omega) (by rw [IntKind.wrap_i64]; omega) (by rw [IntKind.wrap_i64]; unfold grvY; omega) (klm ⟨by omega, by omega⟩ ⟨by omega, by omega⟩ (lim2 ⟨by omega, by omega⟩ (by decide) (by decide) (lim_eq ⟨by omega, by omega⟩)) (lim2 ⟨by omega, by omega⟩ (by decide) (by decide) rfl) e2) z w c0 f0
abbrev KTr (n t : Int) : Prop := ∀ w, Calls Tryz.prog 60 #[.int .i32 n] w fun e w' => e = .returned (.int .i64 t) ∧ w = w'
theorem ktr {n : Int} (h : IntKind.i64.wrap n = n) : KTr n (n / 64) := fun w => by
 go_enter Tryz.func60, Tryz.ntmps60
 go_wp2_with fail
 go_ret
 exact ⟨rfl, rfl⟩
theorem ym1 {x : Bd} {s : Sh} {k n : Nat} {p q u v tx ty a b : Int} {c : Bool} {cb lb gs os cs : Nat} (hk : k < n) (h1 : IntKind.i64.wrap x.px = x.px) (h2 : IntKind.i64.wrap (x.px + s.1) = p) (h3 : IntKind.i64.wrap (p + u) = tx) (T1 : KTr x.vx u)
 (h4 : IntKind.i64.wrap x.py = x.py) (h5 : IntKind.i64.wrap (x.py + s.2) = q) (h6 : IntKind.i64.wrap (q + v) = ty) (T2 : KTr x.vy v) (X : KLm tx ty 1073741824 a b c) (z : Bool) (w : World) (c0 : w.cell? ⟨cb, 0, none⟩ = some (.bool z)) (f0 : w.frozen? ⟨cb, 0, none⟩ = false)
 (l0 : w.cell? ⟨lb, 0, none⟩ = some (.slice (some ⟨gs, os, none⟩) n cs)) (p0 : w.cell? ⟨gs, os + k * 2, none⟩ = some (.int .i64 s.1)) (p1 : w.cell? ⟨gs, os + k * 2 + 1, none⟩ = some (.int .i64 s.2)) :
 Calls Tryz.prog 59 #[.int .i64 (k : Int), .agg #[.int .u32 x.k, .int .i32 x.r, .int .i32 x.ax, .int .i32 x.ay, .int .i32 x.m, .int .i32 x.o, .int .i32 x.px, .int .i32 x.py, .int .i32 x.vx, .int .i32 x.vy], .pointer (some ⟨lb, 0, none⟩), .pointer (some ⟨cb, 0, none⟩)] w fun e w' => e = .returned (.agg #[.int .u32 (plB x a b).k, .int .i32 (plB x a b).r, .int .i32 (plB x a b).ax, .int .i32 (plB x a b).ay, .int .i32 (plB x a b).m, .int .i32 (plB x a b).o, .int .i32 (plB x a b).px, .int .i32 (plB x a b).py, .int .i32 (plB x a b).vx, .int .i32 (plB x a b).vy]) ∧ Flg w w' cb (z || c) := by
 have C1 := Lib.hid T1
 have C2 := Lib.hid T2
 have C3 := Lib.hid X
 have i0 : (0 : Int) ≤ (k : Int) := Int.natCast_nonneg _
 have i1 : (k : Int) < (n : Int) := by omega
 have y0 := World.block_lt_of_cell? _ _ c0
 have y1 := World.block_lt_of_cell? _ _ l0
 have y2 := World.block_lt_of_cell? _ _ p0
 dsimp only at y0 y1 y2
 have y3 : lb < w.heap.size + 1 := by omega
 have y4 : lb < w.heap.size + 1 + 1 := by omega
 have y5 : gs < w.heap.size + 1 := by omega
 have y6 : gs < w.heap.size + 1 + 1 := by omega
 clear X T1 T2
 go_enter Tryz.func59, Tryz.ntmps59
 go_upto_region 4 with fail
 generalize hW : World.alloc (World.alloc (World.alloc w _) _) _ = W1
 have Zb : ZC W1 (w.heap.size) [.int .u32 x.k, .int .i32 x.r, .int .i32 x.ax, .int .i32 x.ay, .int .i32 x.m, .int .i32 x.o, .int .i32 x.px, .int .i32 x.py, .int .i32 x.vx, .int .i32 x.vy] := by rw [← hW]; exact (ZC.more (ZC.more (zc_new' _ _ _ (by first | rfl | simp)) _) _)
 have Zr : ZC W1 (w.heap.size + 1) [.int .u32 0, .int .i32 0, .int .i32 0, .int .i32 0, .int .i32 0, .int .i32 0, .int .i32 0, .int .i32 0, .int .i32 0, .int .i32 0] := by rw [← hW]; exact (ZC.more (zc_new' _ _ _ (by first | rfl | simp)) _)
 have Zs : ZC W1 (w.heap.size + 1 + 1) [.int .i64 s.1, .int .i64 s.2] := by rw [← hW]; exact (zc_new' _ _ _ (by first | rfl | simp))
 have gg : Kep w.heap.size w W1 := by rw [← hW]; exact (kep_more (kep_more (kep_more (Kep.refl _ _) _) _) _)
 clear hW
 clear y1 y2 y3 y4 y5 y6 l0 p0 p1
 have x6 := Zb.i (i := 6) rfl
 have x7 := Zb.i (i := 7) rfl
 have x8 := Zb.i (i := 8) rfl
 have x9 := Zb.i (i := 9) rfl
 have s0 := Zs.i (i := 0) rfl
 have s1 := Zs.i (i := 1) rfl
 refine wp_region_noPanic ?_
 refine wp_region_held_drew (S := (fun w' => w'.cell? ⟨w.heap.size, 6, none⟩ = some (.int .i32 x.px) ∧ w'.cell? ⟨w.heap.size, 7, none⟩ = some (.int .i32 x.py) ∧ w'.cell? ⟨w.heap.size, 8, none⟩ = some (.int .i32 x.vx) ∧ w'.cell? ⟨w.heap.size, 9, none⟩ = some (.int .i32 x.vy) ∧ w'.cell? ⟨w.heap.size + 1 + 1, 0, none⟩ = some (.int .i64 s.1) ∧ w'.cell? ⟨w.heap.size + 1 + 1, 1, none⟩ = some (.int .i64 s.2) ∧ Kep w.heap.size w w')) (by kernel_rfl) (⟨by rw [World.cell?_drew]; exact x6, by rw [World.cell?_drew]; exact x7, by rw [World.cell?_drew]; exact x8, by rw [World.cell?_drew]; exact x9, by rw [World.cell?_drew]; exact s0, by rw [World.cell?_drew]; exact s1, kep_drew gg⟩) (fun hH => ?_)
 refine sT 0 hH ?_
 refine sT 1 hH ?_
 refine sT 2 hH ?_
 refine sN 3 hH ?_
 refine sT 4 hH ?_
 refine sT 5 hH ?_
 refine sT 6 hH ?_
 refine sN 7 hH ?_
 refine sT 8 hH ?_
 refine sN 9 hH ?_
 refine sC 10 (fun K hK => ?_)
 go_simp
 (with_reducible refine (C1.out _).mono ?_); rintro e v4_10 ⟨rfl, rfl⟩
 refine hK.out _ _ hH (fun hH2 => ?_)
 clear hK K hH; have hH := hH2; clear hH2
 refine sT 11 hH ?_
 refine sN 12 hH ?_
 refine sE ?_
 clear x6 x7 x8 x9 s0 s1 gg
 obtain ⟨x6, x7, x8, x9, s0, s1, gg⟩ := hH
 go_upto_region 5 with fail
 refine wp_region_noPanic ?_
 refine wp_region_held_drew (S := (fun w' => w'.cell? ⟨w.heap.size, 6, none⟩ = some (.int .i32 x.px) ∧ w'.cell? ⟨w.heap.size, 7, none⟩ = some (.int .i32 x.py) ∧ w'.cell? ⟨w.heap.size, 8, none⟩ = some (.int .i32 x.vx) ∧ w'.cell? ⟨w.heap.size, 9, none⟩ = some (.int .i32 x.vy) ∧ w'.cell? ⟨w.heap.size + 1 + 1, 0, none⟩ = some (.int .i64 s.1) ∧ w'.cell? ⟨w.heap.size + 1 + 1, 1, none⟩ = some (.int .i64 s.2) ∧ Kep w.heap.size w w')) (by kernel_rfl) (⟨by rw [World.cell?_drew]; exact x6, by rw [World.cell?_drew]; exact x7, by rw [World.cell?_drew]; exact x8, by rw [World.cell?_drew]; exact x9, by rw [World.cell?_drew]; exact s0, by rw [World.cell?_drew]; exact s1, kep_drew gg⟩) (fun hH => ?_)
 refine sT 0 hH ?_
 refine sT 1 hH ?_
 refine sT 2 hH ?_
 refine sN 3 hH ?_
 refine sT 4 hH ?_
 refine sT 5 hH ?_
 refine sT 6 hH ?_
 refine sN 7 hH ?_
 refine sT 8 hH ?_
 refine sN 9 hH ?_
 refine sC 10 (fun K hK => ?_)
 go_simp
 (with_reducible refine (C2.out _).mono ?_); rintro e v5_10 ⟨rfl, rfl⟩
 refine hK.out _ _ hH (fun hH2 => ?_)
 clear hK K hH; have hH := hH2; clear hH2
 refine sT 11 hH ?_
 refine sN 12 hH ?_
 refine sE ?_
 clear x6 x7 x8 x9 s0 s1 gg
 obtain ⟨x6, x7, x8, x9, s0, s1, gg⟩ := hH
 go_upto_region 6 with fail
 replace Zb := Zb.drew.drew
 replace Zr := Zr.drew.drew
 have c1 := gg.all c0
 have f1 := kep_froz gg (by rw [c0]; rfl) f0
 have FG := Lib.hid (Flg.at_ c0 f0 gg)
 have hl := gg.size
 clear Zs c0 f0 x6 x7 x8 x9 s0 s1
 generalize W1.drew.drew = W2 at *
 have x6 := Zb.i (i := 6) rfl
 have x7 := Zb.i (i := 7) rfl
 have zb := Zb.lt
 have n1 : w.heap.size ≠ cb := by omega
 have n2 : w.heap.size + 1 ≠ cb := by omega
 clear gg
 go_upto_region 7 with (first
  | ((with_reducible refine (C3.out z _ cb _ ?_ ?_ ?_).mono ?_)
     ·exact (zc_new _ _ _).i (i := 0) rfl
     ·exact (kep_more (Kep.refl _ _) _).all c1
     ·exact kep_froz (kep_more (Kep.refl _ _) _) (by rw [c1]; rfl) f1
     rintro e w2 ⟨rfl, h2⟩
     replace Zb := h2.fr.zc n1 n1 (Zb.more _)
     replace Zr := h2.fr.zc n2 n2 (Zr.more _)
     have q6 := Zb.frz 6
     have q7 := Zb.frz 7
     have FG2 := Lib.hid ((FG.out.kep (kep_more (Kep.refl _ _) _)).trans h2)
     clear FG h2 x6 x7 zb; have x6 := Zb.i (i := 6) rfl; have x7 := Zb.i (i := 7) rfl; have zb := Zb.lt))
 generalize hV : World.setCell _ _ _ = V
 replace Zb : ZC V (w.heap.size) [.int .u32 x.k, .int .i32 x.r, .int .i32 x.ax, .int .i32 x.ay, .int .i32 x.m, .int .i32 x.o, .int .i32 a, .int .i32 b, .int .i32 x.vx, .int .i32 x.vy] := by rw [← hV]; exact (Zb.put (i := 6) _ (by simp)).put (i := 7) _ (by simp)
 replace Zr : ZC V (w.heap.size + 1) [.int .u32 0, .int .i32 0, .int .i32 0, .int .i32 0, .int .i32 0, .int .i32 0, .int .i32 0, .int .i32 0, .int .i32 0, .int .i32 0] := by rw [← hV]; exact (Zr.far1 (by omega) _).far1 (by omega) _
 replace FG2 := Lib.hid (show Flg w V cb (z || c) by rw [← hV]; exact (FG2.out.far (by omega) n1 _ _).far (by omega) n1 _ _)
 clear hV x6 x7 q6 q7 c1 f1
 have Za := za_of Zb
 have r0 := Zr.i (i := 0) rfl
 have r1 := Zr.i (i := 1) rfl
 have r2 := Zr.i (i := 2) rfl
 have r3 := Zr.i (i := 3) rfl
 have r4 := Zr.i (i := 4) rfl
 have r5 := Zr.i (i := 5) rfl
 have r6 := Zr.i (i := 6) rfl
 have r7 := Zr.i (i := 7) rfl
 have r8 := Zr.i (i := 8) rfl
 have r9 := Zr.i (i := 9) rfl
 have fr0 : V.frozen? ⟨w.heap.size + 1, 0, none⟩ = false := Zr.frz 0
 have fr1 : V.frozen? ⟨w.heap.size + 1, 1, none⟩ = false := Zr.frz 1
 have fr2 : V.frozen? ⟨w.heap.size + 1, 2, none⟩ = false := Zr.frz 2
 have fr3 : V.frozen? ⟨w.heap.size + 1, 3, none⟩ = false := Zr.frz 3
 have fr4 : V.frozen? ⟨w.heap.size + 1, 4, none⟩ = false := Zr.frz 4
 have fr5 : V.frozen? ⟨w.heap.size + 1, 5, none⟩ = false := Zr.frz 5
 have fr6 : V.frozen? ⟨w.heap.size + 1, 6, none⟩ = false := Zr.frz 6
 have fr7 : V.frozen? ⟨w.heap.size + 1, 7, none⟩ = false := Zr.frz 7
 have fr8 : V.frozen? ⟨w.heap.size + 1, 8, none⟩ = false := Zr.frz 8
 have fr9 : V.frozen? ⟨w.heap.size + 1, 9, none⟩ = false := Zr.frz 9
 have zr := Zr.lt
 go_wp2_with fail
 have hst := Zr.set [.int .u32 x.k, .int .i32 x.r, .int .i32 x.ax, .int .i32 x.ay, .int .i32 x.m, .int .i32 x.o, .int .i32 a, .int .i32 b, .int .i32 x.vx, .int .i32 x.vy] (by simp)
 simp only [setAll, Nat.zero_add, Nat.reduceAdd] at hst
 have hst0 := hst.i (i := 0) rfl
 have hst1 := hst.i (i := 1) rfl
 have hst2 := hst.i (i := 2) rfl
 have hst3 := hst.i (i := 3) rfl
 have hst4 := hst.i (i := 4) rfl
 have hst5 := hst.i (i := 5) rfl
 have hst6 := hst.i (i := 6) rfl
 have hst7 := hst.i (i := 7) rfl
 have hst8 := hst.i (i := 8) rfl
 have hst9 := hst.i (i := 9) rfl
 exact bodyPost_ret (v := .agg #[.int .u32 x.k, .int .i32 x.r, .int .i32 x.ax, .int .i32 x.ay, .int .i32 x.m, .int .i32 x.o, .int .i32 a, .int .i32 b, .int .i32 x.vx, .int .i32 x.vy]) (by simp [results, Tryz.results59, go_sem, hst0, hst1, hst2, hst3, hst4, hst5, hst6, hst7, hst8, hst9]) rfl ⟨rfl, Flg.sets (b := w.heap.size + 1) (by omega) n2 [.int .u32 x.k, .int .i32 x.r, .int .i32 x.ax, .int .i32 x.ay, .int .i32 x.m, .int .i32 x.o, .int .i32 a, .int .i32 b, .int .i32 x.vx, .int .i32 x.vy] 0 FG2.out⟩
theorem ym {x : Bd} {s : Sh} {k n cb lb gs os cs : Nat} (hk : k < n) (h : okI x) (hs : Sin s) (w : World) (l0 : w.cell? ⟨lb, 0, none⟩ = some (.slice (some ⟨gs, os, none⟩) n cs)) (p0 : w.cell? ⟨gs, os + k * 2, none⟩ = some (.int .i64 s.1)) (p1 : w.cell? ⟨gs, os + k * 2 + 1, none⟩ = some (.int .i64 s.2)) : KEl 59 #[.pointer (some ⟨lb, 0, none⟩), .pointer (some ⟨cb, 0, none⟩)] (k : Int) x (mtB x s) (mtC x s) cb w := fun z c0 f0 => by
 have vb := vb_of h
 have pb := pb_of h
 have vx0 := vb.vx0; have vx1 := vb.vx1; have vy0 := vb.vy0; have vy1 := vb.vy1
 have px0 := pb.px0; have px1 := pb.px1; have py0 := pb.py0; have py1 := pb.py1
 have b1 := mtX_bd vb pb hs
 have b2 := mtY_bd vb pb hs
 have e2 : ((limW (mtX x s) != mtX x s) || (limW (mtY x s) != mtY x s)) = mtC x s := by
  unfold mtC
  rw [Bool.eq_iff_iff]
  simp [bne_iff_ne]
 have l1 := limW_bd (mtX x s)
 have l2 := limW_bd (mtY x s)
 exact ym1 (p := x.px + s.1) (q := x.py + s.2) (u := x.vx / 64) (v := x.vy / 64) (tx := mtX x s) (ty := mtY x s) (a := limW (mtX x s)) (b := limW (mtY x s)) hk (by rw [IntKind.wrap_i64]; omega) (by rw [IntKind.wrap_i64]; omega) (by rw [IntKind.wrap_i64]; show _ = x.px + s.1 + x.vx / 64; have : mtX x s = x.px + s.1 + x.vx / 64 := rfl; omega) (ktr (by rw [IntKind.wrap_i64]; omega)) (by rw [IntKind.wrap_i64]; omega) (by rw [IntKind.wrap_i64]; omega) (by rw [IntKind.wrap_i64]; show _ = x.py + s.2 + x.vy / 64; have : mtY x s = x.py + s.2 + x.vy / 64 := rfl; omega) (ktr (by rw [IntKind.wrap_i64]; omega))
  (klm ⟨by omega, by omega⟩ ⟨by omega, by omega⟩ (lim2 ⟨by omega, by omega⟩ (by decide) (by decide) rfl) (lim2 ⟨by omega, by omega⟩ (by decide) (by decide) rfl) e2) z w c0 f0 l0 p0 p1
def zeroI : Bd := ⟨0, 0, 0, 0, 0, 0, 0, 0, 0, 0⟩
theorem made_body (n : Nat) : madeCells #[.int .u32 0, .int .i32 0, .int .i32 0, .int .i32 0, .int .i32 0, .int .i32 0, .int .i32 0, .int .i32 0, .int .i32 0, .int .i32 0] (n * 10) = ⟨flat (List.replicate n zeroI)⟩ := by
 refine Array.ext' (List.ext_getElem? fun j => ?_)
 have hl : (flat (List.replicate n zeroI)).length = n * 10 := by
  have := cat_len (f := vals) (n := 10) (fun _ => rfl) (List.replicate n zeroI)
  rw [List.length_replicate] at this
  exact this
 by_cases hj : j < n * 10
 ·have e := flat_get (List.replicate n zeroI) (j / 10) zeroI (by rw [List.getElem?_replicate, if_pos (by omega)]) (j % 10) (Nat.mod_lt _ (by decide))
  rw [show j / 10 * 10 + j % 10 = j by omega] at e
  refine Eq.trans ?_ e.symm
  have hi : j % 10 < 10 := Nat.mod_lt _ (by decide)
  simp only [madeCells, Array.getElem?_toList, Array.getElem?_map, Array.getElem?_range, hj, if_true, Option.map_some]
  show some ((⟨vals zeroI⟩ : Array Value)[j % 10]!) = _
  generalize j % 10 = i at hi
  have q : i = 0 ∨ i = 1 ∨ i = 2 ∨ i = 3 ∨ i = 4 ∨ i = 5 ∨ i = 6 ∨ i = 7 ∨ i = 8 ∨ i = 9 := by omega
  rcases q with rfl | rfl | rfl | rfl | rfl | rfl | rfl | rfl | rfl | rfl <;> rfl
 ·rw [List.getElem?_eq_none (by simp [madeCells]; omega), List.getElem?_eq_none (by rw [hl]; omega)]
theorem mk_body (n : Nat) (h : n ≤ 1000) (W : World) : (Instr.makeSlice 22 (.int .i64 (n : Int)) (.int .i64 (n : Int))).run Tryz.prog W = .ok (.slice (some ⟨W.heap.size, 0, none⟩) n n) (W.alloc (.cells (madeCells #[.int .u32 0, .int .i32 0, .int .i32 0, .int .i32 0, .int .i32 0, .int .i32 0, .int .i32 0, .int .i32 0, .int .i32 0, .int .i32 0] (n * 10)) 40)) := by
 obtain ⟨i0, hi, hz0, hz1, hz2⟩ := info_parts info_body
 have r := run_make (P := Tryz.prog) W 22 40 i0 _ Tryz.underlying22 hi hz0 .i64 .i64 (n : Int) (n : Int) (by omega) (Int.le_refl _) (by rw [hz2]; omega) (by omega)
 rw [hz1, Int.toNat_natCast] at r
 exact r
theorem zc_body (W : World) (n : Nat) (t : TypeId) : ZC (W.alloc (.cells (madeCells #[.int .u32 0, .int .i32 0, .int .i32 0, .int .i32 0, .int .i32 0, .int .i32 0, .int .i32 0, .int .i32 0, .int .i32 0, .int .i32 0] (n * 10)) t)) W.heap.size (flat (List.replicate n zeroI)) := by
 rw [made_body]
 exact zc_new _ _ _
def mxB (Y : List Bd) (n k : Nat) : List Bd := Y.take k ++ List.replicate (n - k) zeroI
theorem mx_at {Y : List Bd} {n k : Nat} (hY : Y.length = n) (hk : k < n) : (mxB Y n k)[k]? = some zeroI := by
 unfold mxB
 rw [List.getElem?_append_right (by rw [List.length_take]; omega), List.length_take, Nat.min_eq_left (by omega), Nat.sub_self, List.getElem?_replicate, if_pos (by omega)]
theorem mx_set {Y : List Bd} {n k : Nat} {y : Bd} (hY : Y.length = n) (hk : k < n) (hy : Y[k]? = some y) : (mxB Y n k).set k y = mxB Y n (k + 1) := by
 unfold mxB
 have l : (Y.take k).length = k := by rw [List.length_take]; omega
 rw [List.set_append_right _ _ (by omega), l, Nat.sub_self, List.take_add_one, hy, show n - k = n - (k + 1) + 1 by omega, List.replicate_succ, List.set_cons_zero]
 simp
theorem mx_end {Y : List Bd} {n : Nat} (hY : Y.length = n) : mxB Y n n = Y := by unfold mxB; rw [Nat.sub_self, List.replicate_zero, List.append_nil, List.take_of_length_le (by omega)]
theorem flat_lenI (D : List Bd) : (flat D).length = D.length * 10 := cat_len (f := vals) (n := 10) (fun _ => rfl) D
theorem set_put (b : Nat) : ∀ (us : List Value) (o : Nat) (vs : List Value) {w : World}, ZC w b vs → o + us.length ≤ vs.length → ZC (setAll w b o us) b (vs.take o ++ us ++ vs.drop (o + us.length))
 | [], o, vs, _, h, _ => by simpa [setAll] using h
 | u :: us, o, vs, w, h, hl => by
   rw [List.length_cons] at hl
   have := set_put b us (o + 1) _ (h.put (i := o) u (by omega)) (by rw [List.length_set]; omega)
   have e : (vs.set o u).take (o + 1) = vs.take o ++ [u] := by
    rw [List.take_add_one, List.getElem?_set_self (by omega), List.take_set_of_le (Nat.le_refl _)]
    rfl
   have e2 : (vs.set o u).drop (o + 1 + us.length) = vs.drop (o + (us.length + 1)) := by
    rw [List.drop_set_of_lt (by omega), show o + 1 + us.length = o + (us.length + 1) by omega]
   rw [e, e2] at this
   simpa [setAll] using this
theorem flat_mid {D : List Bd} {i : Nat} {y : Bd} (hi : i < D.length) : (flat D).take (i * 10) ++ vals y ++ (flat D).drop (i * 10 + 10) = flat (D.set i y) := by
 have e : D.set i y = D.take i ++ y :: D.drop (i + 1) := by rw [List.set_eq_take_append_cons_drop, if_pos hi]
 have f : ∀ A B : List Bd, flat (A ++ B) = flat A ++ flat B := fun A B => by simp [flat]
 have t : ∀ n, n ≤ D.length → (flat D).take (n * 10) = flat (D.take n) := fun n hn => by
  conv => lhs; rw [← List.take_append_drop n D, f]
  rw [List.take_left' (by rw [flat_lenI, List.length_take]; omega)]
 have d : ∀ n, n ≤ D.length → (flat D).drop (n * 10) = flat (D.drop n) := fun n hn => by
  conv => lhs; rw [← List.take_append_drop n D, f]
  rw [List.drop_left' (by rw [flat_lenI, List.length_take]; omega)]
 have g : flat (y :: D.drop (i + 1)) = vals y ++ flat (D.drop (i + 1)) := by simp [flat]
 rw [e, f, g, t i (by omega), show i * 10 + 10 = (i + 1) * 10 by omega, d (i + 1) (by omega), List.append_assoc]
theorem put_body {w : World} {b i : Nat} {D : List Bd} {y : Bd} (h : ZC w b (flat D)) (hi : i < D.length) : ZC (setAll w b (i * 10) (vals y)) b (flat (D.set i y)) := by
 have := set_put b (vals y) (i * 10) _ h (by rw [flat_lenI]; show i * 10 + 10 ≤ _; omega)
 rw [← flat_mid hi]
 exact this
structure TX (wa w : World) (cb ga : Nat) (z : Bool) (D : List Bd) : Prop where
 fl : Flg wa w cb z
 lg : wa.heap.size ≤ ga
 z : ZC w ga (flat D)
theorem TX.next {wa w w' w'' : World} {cb ga n k : Nat} {z c : Bool} {Y : List Bd} {y : Bd} (h : TX wa w cb ga z (mxB Y n k)) (hn : ga ≠ cb) (g : Kep w.heap.size w w') (q : Flg w' w'' cb c) (hY : Y.length = n) (hk : k < n) (hy : Y[k]? = some y) : TX wa (setAll w'' ga (k * 10) (vals y)) cb ga c (mxB Y n (k + 1)) :=
 ⟨Flg.sets h.lg hn _ _ ((h.fl.kep g).trans q), h.lg, by
   rw [← mx_set hY hk hy]
   exact put_body (q.fr.zc hn hn (h.z.kep g)) (List.getElem?_eq_some_iff.1 (mx_at hY hk)).1⟩
theorem ytrg {L Y : List Bd} {A : List Bool} {n cb : Nat} {v : Value} {wa : World} (hn : L.length = n) (hm : n ≤ 1000) (hY : Y.length = n) (hA : A.length = n) (hv : ∀ z w, Flg wa w cb z → Lst w v L) (c0 : wa.cell? ⟨cb, 0, none⟩ = some (.bool false)) (f0 : wa.frozen? ⟨cb, 0, none⟩ = false)
 (HE : ∀ (k : Nat) x y c, L[k]? = some x → Y[k]? = some y → A[k]? = some c → ∀ z w, Flg wa w cb z → KEl 55 #[.pointer (some ⟨cb, 0, none⟩)] (k : Int) x y c cb w) :
 Calls Tryz.prog 54 #[v, .func (.func 55) #[] #[.pointer (some ⟨cb, 0, none⟩)]] wa fun e w' => ∃ v', e = .returned v' ∧ Lst w' v' Y ∧ Flg wa w' cb (A.any id) := by
 obtain ⟨base, cap, rfl⟩ := (hv false wa (.self c0 f0)).shape
 have HL := Lib.hid hv
 have HF := Lib.hid HE
 have HN := Lib.hid hn
 have HY := Lib.hid hY
 have HA := Lib.hid hA
 have FS := Lib.hid (Flg.self c0 f0)
 have hcb := World.block_lt_of_cell? _ _ c0
 dsimp only at hcb
 clear hv HE hY hA c0 f0
 rw [hn]
 clear hn
 have hmk := mk_body n hm
 go_enter Tryz.func54, Tryz.ntmps54
 go_upto_region 1 with fail
 go_cut [5] (fun s5 wx => ∃ ga, s5 = .slice (some ⟨ga, 0, none⟩) n n ∧ Hid (TX wa wx cb ga false (mxB Y n 0) ∧ ga ≠ cb))
 case first =>
  go_wp2_with fail
  go_meet
  refine ⟨wa.heap.size, rfl, Lib.hid ⟨⟨FS.out.kep (kep_more (Kep.refl _ _) _), Nat.le_refl _, ?_⟩, by omega⟩⟩
  have e : mxB Y n 0 = List.replicate n zeroI := by unfold mxB; rw [List.take_zero, List.nil_append, Nat.sub_zero]
  rw [e]
  exact zc_body wa n _
 case rest =>
  obtain ⟨ga, rfl, HT⟩ := hcut
  have hga := HT.out.2
  have HT0 := Lib.hid HT.out.1
  clear HT hmk FS
  go_wp2_with fail
  go_loopw [13] (fun i wr => ∃ k : Nat, k ≤ n ∧ i = .int .i64 k ∧ Hid (TX wa wr cb ga ((A.take k).any id) (mxB Y n k))) (fun i _ => n - (RowKit.intOf i).toNat)
  case atStart => exact ⟨0, by omega, rfl, HT0⟩
  case round =>
   obtain ⟨k, hk, rfl, HP⟩ := hrel
   clear HT0
   by_cases hlt : k < n
   ·have hx : L[k]? = some (L[k]'(by rw [HN.out]; exact hlt)) := List.getElem?_eq_getElem _
    have hy : Y[k]? = some (Y[k]'(by rw [HY.out]; exact hlt)) := List.getElem?_eq_getElem _
    have hc : A[k]? = some (A[k]'(by rw [HA.out]; exact hlt)) := List.getElem?_eq_getElem _
    generalize L[k]'(by rw [HN.out]; exact hlt) = x at hx
    generalize Y[k]'(by rw [HY.out]; exact hlt) = y at hy
    generalize A[k]'(by rw [HA.out]; exact hlt) = c at hc
    have HR := Lib.hid (HF.out k x y c hx hy hc)
    have HTA : Hid ((A.take (k + 1)).any id = ((A.take k).any id || c)) := Lib.hid (takeB hc)
    obtain ⟨g, off, rfl, q⟩ := (HL.out _ _ HP.out.fl).at_ hx
    have Zx : ZE wr g (off + k * 10) [.int .u32 x.k, .int .i32 x.r, .int .i32 x.ax, .int .i32 x.ay, .int .i32 x.m, .int .i32 x.o, .int .i32 x.px, .int .i32 x.py, .int .i32 x.vx, .int .i32 x.vy] := ze_of q
    have HYk := Lib.hid hy
    have i0 : (0 : Int) ≤ (k : Int) := Int.natCast_nonneg _
    have i1 : (k : Int) < (n : Int) := by omega
    have hw := HP.out.fl.fr.size
    clear hx hy hc q
    generalize (A.take k).any id = z at *
    go_upto_region 5 with fail
    generalize hW : World.alloc wr _ = W5
    have Zb : ZA W5 wr.heap.size [.int .u32 x.k, .int .i32 x.r, .int .i32 x.ax, .int .i32 x.ay, .int .i32 x.m, .int .i32 x.o, .int .i32 x.px, .int .i32 x.py, .int .i32 x.vx, .int .i32 x.vy] := by rw [← hW]; exact za_new _ _ _ rfl
    have g5 : Kep wr.heap.size wr W5 := by rw [← hW]; exact kep_more (Kep.refl _ _) _
    have ZB : wr.heap.size < W5.heap.size := by rw [← hW]; simp
    have C1 : Hid (Calls Tryz.prog 55 #[.int .i64 (k : Int), .agg #[.int .u32 x.k, .int .i32 x.r, .int .i32 x.ax, .int .i32 x.ay, .int .i32 x.m, .int .i32 x.o, .int .i32 x.px, .int .i32 x.py, .int .i32 x.vx, .int .i32 x.vy], .pointer (some ⟨cb, 0, none⟩)] W5 fun e w' => e = .returned (.agg #[.int .u32 y.k, .int .i32 y.r, .int .i32 y.ax, .int .i32 y.ay, .int .i32 y.m, .int .i32 y.o, .int .i32 y.px, .int .i32 y.py, .int .i32 y.vx, .int .i32 y.vy]) ∧ Flg W5 w' cb (z || c)) := Lib.hid (HR.out z W5 (HP.out.fl.kep g5) z (HP.out.fl.kep g5).c (HP.out.fl.kep g5).f)
    clear hW Zx HR
    go_upto_region 6 with (first
     | ((with_reducible refine (C1.out).mono ?_); rintro e w6 ⟨rfl, h6⟩
        have zo := h6.fr.zc hga hga (HP.out.z.kep g5)
        have Fz := zo.frz
        have zl := zo.lt
        have HX : Hid (TX wa (setAll w6 ga (k * 10) [.int .u32 y.k, .int .i32 y.r, .int .i32 y.ax, .int .i32 y.ay, .int .i32 y.m, .int .i32 y.o, .int .i32 y.px, .int .i32 y.py, .int .i32 y.vx, .int .i32 y.vy]) cb ga (z || c) (mxB Y n (k + 1))) := Lib.hid (TX.next HP.out hga g5 h6 HY.out hlt HYk.out)
        have Ze : ZE w6 ga (k * 10) [.int .u32 0, .int .i32 0, .int .i32 0, .int .i32 0, .int .i32 0, .int .i32 0, .int .i32 0, .int .i32 0, .int .i32 0, .int .i32 0] := ze_of (fun i hi => by
         rw [List.getElem?_eq_getElem hi]
         exact zo.i ((flat_get _ k _ (mx_at HY.out hlt) i hi).trans (List.getElem?_eq_getElem hi)))
        clear zo h6))
    simp only [setAll, Nat.add_assoc, Nat.reduceAdd] at HX
    rw [← HTA.out] at HX
    clear Ze Fz zl HTA HP
    go_wp2_with fail
    go_roundw
    case rel => exact ⟨k + 1, by omega, by go_num, HX⟩
    case measure => simp [RowKit.intOf]; omega
   ·have i2 : ¬ (k : Int) < (n : Int) := by omega
    obtain rfl : k = n := by omega
    have HE : Hid (Lst wr (.slice (some ⟨ga, 0, none⟩) k k) Y ∧ Flg wa wr cb (A.any id)) := Lib.hid (by
     have h := HP.out
     rw [mx_end HY.out, List.take_of_length_le (Nat.le_of_eq HA.out)] at h
     exact ⟨.inr ⟨ga, 0, k, by rw [HY.out], fun j b hb i hi => by
      have e := flat_get Y j b hb i hi
      rw [Nat.zero_add]
      rw [List.getElem?_eq_getElem (show i < (vals b).length from hi)] at e ⊢
      exact h.z.i e⟩, h.fl⟩)
    clear HP
    go_wp2_with fail
    go_ret
    exact ⟨_, rfl, HE.out⟩
theorem ytrm {L Y : List Bd} {A : List Bool} {n cb lb : Nat} {v : Value} {wa : World} (hn : L.length = n) (hm : n ≤ 1000) (hY : Y.length = n) (hA : A.length = n) (hv : ∀ z w, Flg wa w cb z → Lst w v L) (c0 : wa.cell? ⟨cb, 0, none⟩ = some (.bool false)) (f0 : wa.frozen? ⟨cb, 0, none⟩ = false)
 (HE : ∀ (k : Nat) x y c, L[k]? = some x → Y[k]? = some y → A[k]? = some c → ∀ z w, Flg wa w cb z → KEl 59 #[.pointer (some ⟨lb, 0, none⟩), .pointer (some ⟨cb, 0, none⟩)] (k : Int) x y c cb w) :
 Calls Tryz.prog 54 #[v, .func (.func 59) #[] #[.pointer (some ⟨lb, 0, none⟩), .pointer (some ⟨cb, 0, none⟩)]] wa fun e w' => ∃ v', e = .returned v' ∧ (Lst w' v' Y ∧ Rmy v') ∧ Flg wa w' cb (A.any id) := by
 obtain ⟨base, cap, rfl⟩ := (hv false wa (.self c0 f0)).shape
 have HL := Lib.hid hv
 have HF := Lib.hid HE
 have HN := Lib.hid hn
 have HY := Lib.hid hY
 have HA := Lib.hid hA
 have FS := Lib.hid (Flg.self c0 f0)
 have hcb := World.block_lt_of_cell? _ _ c0
 dsimp only at hcb
 clear hv HE hY hA c0 f0
 rw [hn]
 clear hn
 have hmk := mk_body n hm
 go_enter Tryz.func54, Tryz.ntmps54
 go_upto_region 1 with fail
 go_cut [5] (fun s5 wx => ∃ ga, s5 = .slice (some ⟨ga, 0, none⟩) n n ∧ Hid (TX wa wx cb ga false (mxB Y n 0) ∧ ga ≠ cb))
 case first =>
  go_wp2_with fail
  go_meet
  refine ⟨wa.heap.size, rfl, Lib.hid ⟨⟨FS.out.kep (kep_more (Kep.refl _ _) _), Nat.le_refl _, ?_⟩, by omega⟩⟩
  have e : mxB Y n 0 = List.replicate n zeroI := by unfold mxB; rw [List.take_zero, List.nil_append, Nat.sub_zero]
  rw [e]
  exact zc_body wa n _
 case rest =>
  obtain ⟨ga, rfl, HT⟩ := hcut
  have hga := HT.out.2
  have HT0 := Lib.hid HT.out.1
  clear HT hmk FS
  go_wp2_with fail
  go_loopw [13] (fun i wr => ∃ k : Nat, k ≤ n ∧ i = .int .i64 k ∧ Hid (TX wa wr cb ga ((A.take k).any id) (mxB Y n k))) (fun i _ => n - (RowKit.intOf i).toNat)
  case atStart => exact ⟨0, by omega, rfl, HT0⟩
  case round =>
   obtain ⟨k, hk, rfl, HP⟩ := hrel
   clear HT0
   by_cases hlt : k < n
   ·have hx : L[k]? = some (L[k]'(by rw [HN.out]; exact hlt)) := List.getElem?_eq_getElem _
    have hy : Y[k]? = some (Y[k]'(by rw [HY.out]; exact hlt)) := List.getElem?_eq_getElem _
    have hc : A[k]? = some (A[k]'(by rw [HA.out]; exact hlt)) := List.getElem?_eq_getElem _
    generalize L[k]'(by rw [HN.out]; exact hlt) = x at hx
    generalize Y[k]'(by rw [HY.out]; exact hlt) = y at hy
    generalize A[k]'(by rw [HA.out]; exact hlt) = c at hc
    have HR := Lib.hid (HF.out k x y c hx hy hc)
    have HTA : Hid ((A.take (k + 1)).any id = ((A.take k).any id || c)) := Lib.hid (takeB hc)
    obtain ⟨g, off, rfl, q⟩ := (HL.out _ _ HP.out.fl).at_ hx
    have Zx : ZE wr g (off + k * 10) [.int .u32 x.k, .int .i32 x.r, .int .i32 x.ax, .int .i32 x.ay, .int .i32 x.m, .int .i32 x.o, .int .i32 x.px, .int .i32 x.py, .int .i32 x.vx, .int .i32 x.vy] := ze_of q
    have HYk := Lib.hid hy
    have i0 : (0 : Int) ≤ (k : Int) := Int.natCast_nonneg _
    have i1 : (k : Int) < (n : Int) := by omega
    have hw := HP.out.fl.fr.size
    clear hx hy hc q
    generalize (A.take k).any id = z at *
    go_upto_region 5 with fail
    generalize hW : World.alloc wr _ = W5
    have Zb : ZA W5 wr.heap.size [.int .u32 x.k, .int .i32 x.r, .int .i32 x.ax, .int .i32 x.ay, .int .i32 x.m, .int .i32 x.o, .int .i32 x.px, .int .i32 x.py, .int .i32 x.vx, .int .i32 x.vy] := by rw [← hW]; exact za_new _ _ _ rfl
    have g5 : Kep wr.heap.size wr W5 := by rw [← hW]; exact kep_more (Kep.refl _ _) _
    have ZB : wr.heap.size < W5.heap.size := by rw [← hW]; simp
    have C1 : Hid (Calls Tryz.prog 59 #[.int .i64 (k : Int), .agg #[.int .u32 x.k, .int .i32 x.r, .int .i32 x.ax, .int .i32 x.ay, .int .i32 x.m, .int .i32 x.o, .int .i32 x.px, .int .i32 x.py, .int .i32 x.vx, .int .i32 x.vy], .pointer (some ⟨lb, 0, none⟩), .pointer (some ⟨cb, 0, none⟩)] W5 fun e w' => e = .returned (.agg #[.int .u32 y.k, .int .i32 y.r, .int .i32 y.ax, .int .i32 y.ay, .int .i32 y.m, .int .i32 y.o, .int .i32 y.px, .int .i32 y.py, .int .i32 y.vx, .int .i32 y.vy]) ∧ Flg W5 w' cb (z || c)) := Lib.hid (HR.out z W5 (HP.out.fl.kep g5) z (HP.out.fl.kep g5).c (HP.out.fl.kep g5).f)
    clear hW Zx HR
    go_upto_region 6 with (first
     | ((with_reducible refine (C1.out).mono ?_); rintro e w6 ⟨rfl, h6⟩
        have zo := h6.fr.zc hga hga (HP.out.z.kep g5)
        have Fz := zo.frz
        have zl := zo.lt
        have HX : Hid (TX wa (setAll w6 ga (k * 10) [.int .u32 y.k, .int .i32 y.r, .int .i32 y.ax, .int .i32 y.ay, .int .i32 y.m, .int .i32 y.o, .int .i32 y.px, .int .i32 y.py, .int .i32 y.vx, .int .i32 y.vy]) cb ga (z || c) (mxB Y n (k + 1))) := Lib.hid (TX.next HP.out hga g5 h6 HY.out hlt HYk.out)
        have Ze : ZE w6 ga (k * 10) [.int .u32 0, .int .i32 0, .int .i32 0, .int .i32 0, .int .i32 0, .int .i32 0, .int .i32 0, .int .i32 0, .int .i32 0, .int .i32 0] := ze_of (fun i hi => by
         rw [List.getElem?_eq_getElem hi]
         exact zo.i ((flat_get _ k _ (mx_at HY.out hlt) i hi).trans (List.getElem?_eq_getElem hi)))
        clear zo h6))
    simp only [setAll, Nat.add_assoc, Nat.reduceAdd] at HX
    rw [← HTA.out] at HX
    clear Ze Fz zl HTA HP
    go_wp2_with fail
    go_roundw
    case rel => exact ⟨k + 1, by omega, by go_num, HX⟩
    case measure => simp [RowKit.intOf]; omega
   ·have i2 : ¬ (k : Int) < (n : Int) := by omega
    obtain rfl : k = n := by omega
    have HE : Hid (Lst wr (.slice (some ⟨ga, 0, none⟩) k k) Y ∧ Flg wa wr cb (A.any id)) := Lib.hid (by
     have h := HP.out
     rw [mx_end HY.out, List.take_of_length_le (Nat.le_of_eq HA.out)] at h
     exact ⟨.inr ⟨ga, 0, k, by rw [HY.out], fun j b hb i hi => by
      have e := flat_get Y j b hb i hi
      rw [Nat.zero_add]
      rw [List.getElem?_eq_getElem (show i < (vals b).length from hi)] at e ⊢
      exact h.z.i e⟩, h.fl⟩)
    clear HP
    go_wp2_with fail
    go_ret
    exact ⟨_, rfl, ⟨HE.out.1, fun _ _ _ e => by injection e with _ e1 e2; omega⟩, HE.out.2⟩
theorem ygrv : YGr := fun v L w hv hl hok => by
 have hmf : ∀ (fn : Fn) (first cap : Array Value) (w : World), (Instr.makeFunc fn first cap).run Tryz.prog w = .ok (.func fn first cap) w := fun _ _ _ _ => rfl
 have HT : Hid (Calls Tryz.prog 54 #[v, .func (.func 55) #[] #[.pointer (some ⟨w.heap.size, 0, none⟩)]] (w.alloc (.cells #[.bool false] 4)) fun e w' => ∃ v', e = .returned v' ∧ Lst w' v' (L.map grvB) ∧ Flg (w.alloc (.cells #[.bool false] 4)) w' w.heap.size (L.any grvC)) := Lib.hid (by
  have z := zc_new w [.bool false] 4
  have e : L.any grvC = (L.map grvC).any id := by rw [List.any_map]; rfl
  rw [e]
  refine ytrg (n := L.length) rfl hl (List.length_map ..) (List.length_map ..) (fun z w' f => hv.kep ((kep_more (Kep.refl w.heap.size w) _).trans (f.fr.down (Nat.le_refl _) (Nat.le_refl _) (by simp)))) (z.i (i := 0) rfl) (z.frz 0) fun k x y c hx hy hc z w' f => ?_
  rw [List.getElem?_map, hx] at hy hc
  injection hy with hy
  injection hc with hc
  subst hy hc
  exact yg (hok x (List.mem_of_getElem? hx)) w')
 clear hv hok hl
 generalize L.any grvC = z at *
 go_enter Tryz.func38, Tryz.ntmps38
 go_upto_region 3 with ((with_reducible refine (HT.out).mono ?_); rintro e w2 ⟨v2, rfl, l2, f2⟩; have L2 := Lib.hid l2; have c2 := f2.c; have FK : Hid (Kep w.heap.size w w2) := Lib.hid ((kep_more (Kep.refl w.heap.size w) _).trans (f2.fr.down (Nat.le_refl _) (Nat.le_refl _) (by simp))); clear l2 f2)
 go_quiet (fail)
 go_wp2_with fail
 go_ret2
 exact ⟨_, rfl, L2.out.kep (kep_drewN (Kep.refl _ _) _), kep_drewN FK.out _⟩
theorem ymovR (v : Value) (L : List Bd) (s : Value) (S : List Sh) (w : World) (hv : Lst w v L) (hs : Sq shv 2 w s S) (hl : L.length ≤ 1000) (hn : S.length = L.length) (hok : ∀ x ∈ L, okI x) (hsin : ∀ y ∈ S, Sin y) : Calls Tryz.prog 40 #[v, s] w fun e w' => ∃ v', e = .returned (.tuple #[v', .bool ((mtA L S).any id)]) ∧ (Lst w' v' (mtL L S) ∧ Rmy v') ∧ Kep w.heap.size w w' := by
 have hmf : ∀ (fn : Fn) (first cap : Array Value) (w : World), (Instr.makeFunc fn first cap).run Tryz.prog w = .ok (.func fn first cap) w := fun _ _ _ _ => rfl
 obtain ⟨bs, cs, rfl, qs⟩ := hs
 have HT : Hid (Calls Tryz.prog 54 #[v, .func (.func 59) #[] #[.pointer (some ⟨w.heap.size, 0, none⟩), .pointer (some ⟨w.heap.size + 1, 0, none⟩)]] ((w.alloc (.cells #[.slice bs S.length cs] 72)).alloc (.cells #[.bool false] 4)) fun e w' => ∃ v', e = .returned v' ∧ (Lst w' v' (mtL L S) ∧ Rmy v') ∧ Flg ((w.alloc (.cells #[.slice bs S.length cs] 72)).alloc (.cells #[.bool false] 4)) w' (w.heap.size + 1) ((mtA L S).any id)) := Lib.hid (by
  have zl := (zc_new w [.slice bs S.length cs] 72).more (.cells #[.bool false] 4)
  have z := zc_new' (w.alloc (.cells #[.slice bs S.length cs] 72)) [.bool false] 4 (b := w.heap.size + 1) (by simp)
  refine ytrm (n := L.length) (lb := w.heap.size) rfl hl (mtL_len hn) (mtA_len hn) (fun z w' f => hv.kep ((kep_more (kep_more (Kep.refl w.heap.size w) _) _).trans (f.fr.down (Nat.le_succ _) (Nat.le_succ _) (by simp; omega)))) (z.i (i := 0) rfl) (z.frz 0) fun k x y c hx hy hc z w' f => ?_
  have hk := (List.getElem?_eq_some_iff.1 hx).1
  have hq : S[k]? = some (S[k]'(by omega)) := List.getElem?_eq_getElem _
  generalize S[k]'(by omega) = t at hq
  rw [mtL_at hx hq] at hy
  rw [mtA_at hx hq] at hc
  injection hy with hy
  injection hc with hc
  subst hy hc
  obtain ⟨gs, os, rfl, q⟩ := qs k t hq
  have g : Kep w.heap.size w w' := (kep_more (kep_more (Kep.refl w.heap.size w) _) _).trans (f.fr.down (Nat.le_succ _) (Nat.le_succ _) (by simp; omega))
  exact ym (n := S.length) (by omega) (hok x (List.mem_of_getElem? hx)) (hsin t (List.mem_of_getElem? hq)) w' (f.fr.cell (by omega) (by omega) (zl.i (i := 0) rfl)) (g.all (by simpa using q 0 _ rfl)) (g.all (q 1 _ rfl)))
 clear hv hok hl qs hsin hn
 generalize (mtA L S).any id = z at *
 go_enter Tryz.func40, Tryz.ntmps40
 go_upto_region 3 with ((with_reducible refine (HT.out).mono ?_); rintro e w2 ⟨v2, rfl, ⟨l2, m2⟩, f2⟩; have L2 := Lib.hid l2; have M2 := Lib.hid m2; have c2 := f2.c; have FK : Hid (Kep w.heap.size w w2) := Lib.hid ((kep_more (kep_more (Kep.refl w.heap.size w) _) _).trans (f2.fr.down (Nat.le_succ _) (Nat.le_succ _) (by simp; omega))); clear l2 m2 f2)
 go_quiet (fail)
 go_wp2_with fail
 go_ret2
 exact ⟨_, rfl, ⟨L2.out.kep (kep_drewN (Kep.refl _ _) _), M2.out⟩, kep_drewN FK.out _⟩
end Go.Proofs.YtaknmlohnifcdaaGreatDoor
