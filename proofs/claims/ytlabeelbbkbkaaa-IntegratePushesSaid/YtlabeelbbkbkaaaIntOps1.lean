/-
  Package integrate: travel, gain, limited.
-/
import Derived.Test.YtlabeelbbkbkaaaIntCon
import Derived.Test.YtlabeelbbkbkaaaJ05BoxMath
import Derived.Test.YtlabeelbbkbkaaaJ01FxRef
import Derived.Test.YtlabeelbbkbkaaaBodyOps
import Derived.Test.YtlabeelbbkbkaaaZa
import Derived.Deep.DeepCutAuto
import Derived.Deep.QuietTactic
import Derived.BigQuiet
namespace Go.Proofs.Ytlabeelbbkbkaaa
open Go.RowKit Go.Lib

/-- What a call leaves that sets a flag: block cb alone is written. -/
structure Flg (w w' : World) (cb : Nat) (z : Bool) : Prop where
  fr : FrO cb cb w w'
  c : w'.cell? ⟨cb, 0, none⟩ = some (.bool z)
  f : w'.frozen? ⟨cb, 0, none⟩ = false
theorem Flg.kep {w w' w'' : World} {cb : Nat} {z : Bool} (h : Flg w w' cb z) (g : Kep w'.heap.size w' w'') : Flg w w'' cb z := ⟨h.fr.kep g, g.all h.c, kep_froz g (by rw [h.c]; rfl) h.f⟩
theorem Flg.trans {w w' w'' : World} {cb : Nat} {z y : Bool} (h : Flg w w' cb z) (k : Flg w' w'' cb y) : Flg w w'' cb y := ⟨h.fr.trans k.fr, k.c, k.f⟩
theorem Flg.self {w : World} {cb : Nat} {z : Bool} (c : w.cell? ⟨cb, 0, none⟩ = some (.bool z)) (f : w.frozen? ⟨cb, 0, none⟩ = false) : Flg w w cb z := ⟨.refl _ _ _, c, f⟩
theorem flg_set {w : World} {cb : Nat} {z y : Bool} (c : w.cell? ⟨cb, 0, none⟩ = some (.bool z)) (f : w.frozen? ⟨cb, 0, none⟩ = false) : Flg w (w.setCell ⟨cb, 0, none⟩ (.bool y)) cb y := ⟨(FrO.refl _ _ _).set1 _, World.cell?_setCell_same' _ _ _ (by rw [c]; rfl), sset_froz f⟩
set_option maxRecDepth 100000 in
set_option maxHeartbeats 2000000 in
theorem ylim {x y m a b : Int} {z c d : Bool} {fb cb : Nat} (h1 : IntKind.i32.wrap a = a) (h2 : IntKind.i32.wrap b = b) (X1 : Lim2 x m a) (X2 : Lim2 y m b) (hc : (a != x) = c) (hd : (b != y) = d) (w : World) (p0 : w.cell? ⟨fb, 0, none⟩ = some (.pointer (some ⟨cb, 0, none⟩))) (c0 : w.cell? ⟨cb, 0, none⟩ = some (.bool z)) (f0 : w.frozen? ⟨cb, 0, none⟩ = false) :
    Calls Try.prog 26 #[.int .i64 x, .int .i64 y, .int .i64 m, .slice (some ⟨fb, 0, none⟩) 1 1] w fun e w' => e = .returned (.agg #[.int .i32 a, .int .i32 b]) ∧ Flg w w' cb (z || c || d) := by
  simp only [Lim2, hc] at X1
  simp only [Lim2, hd] at X2
  have C1 := Lib.hid X1
  have C2 := Lib.hid X2
  have l1 := World.block_lt_of_cell? _ _ p0
  have l2 := World.block_lt_of_cell? _ _ c0
  have HF := Lib.hid (fun y => flg_set (y := y) c0 f0)
  dsimp only at l1 l2
  clear X1 X2 hc hd
  cases z <;> cases c <;>
  · go_enter Try.func26, Try.ntmps26
    go_wp2_with (first
      | ((with_reducible refine (C1.out _).mono ?_); rintro e w1 ⟨rfl, rfl⟩)
      | ((with_reducible refine (C2.out _).mono ?_); rintro e w2 ⟨rfl, rfl⟩))
    refine wp_loop_rounds 2 ?_
    rw [rounds_succ]
    go_wp2_with fail
    rw [rounds_succ]
    go_wp2_with fail
    exact bodyPost_ret (v := .agg #[.int .i32 a, .int .i32 b]) (by simp [results, Try.results26, go_sem]) rfl ⟨rfl, (HF.out _).kep (kep_more (Kep.refl _ _) _)⟩
theorem Flg.far {w w' : World} {cb b : Nat} {z : Bool} (h : Flg w w' cb z) (hb : w.heap.size ≤ b) (n : b ≠ cb) (i : Nat) (u : Value) : Flg w (w'.setCell ⟨b, i, none⟩ u) cb z :=
  ⟨⟨h.fr.os, h.fr.output, by rw [World.size_setCell]; exact h.fr.size, fun k hk n1 n2 => by rw [Below.heap_setCell _ _ _ k (fun e => by dsimp only at e; omega)]; exact h.fr.block k hk n1 n2⟩, sset_far h.c n, sset_froz h.f⟩
theorem Flg.sets {w : World} {cb b : Nat} {z : Bool} (hb : w.heap.size ≤ b) (n : b ≠ cb) : ∀ (l : List Value) (o : Nat) {w' : World}, Flg w w' cb z → Flg w (setAll w' b o l) cb z
  | [], _, _, h => h
  | u :: l, o, _, h => by
    unfold setAll
    exact Flg.sets hb n l (o + 1) (h.far hb n o u)
theorem Flg.at_ {w w' : World} {cb : Nat} {z : Bool} (c : w.cell? ⟨cb, 0, none⟩ = some (.bool z)) (f : w.frozen? ⟨cb, 0, none⟩ = false) (g : Kep w.heap.size w w') : Flg w w' cb z := (Flg.self c f).kep g
abbrev KSt (x : Bd) (c : Bool) : Prop := ∀ w, Calls Try.prog 25 #[.agg #[.int .u32 x.k, .int .i32 x.r, .int .i32 x.ax, .int .i32 x.ay, .int .i32 x.m, .int .i32 x.o, .int .i32 x.px, .int .i32 x.py, .int .i32 x.vx, .int .i32 x.vy]] w fun e w' => e = .returned (.bool c) ∧ Kep w.heap.size w w'
theorem kst (x : Bd) {c : Bool} (h : decide (x.m = 0) = c) : KSt x c := fun w => kep_calls (sta x.k x.r x.ax x.ay x.m x.o x.px x.py x.vx x.vy c h w)
abbrev KLm (x y m a b : Int) (c : Bool) : Prop := ∀ (z : Bool) (fb cb : Nat) (w : World), w.cell? ⟨fb, 0, none⟩ = some (.pointer (some ⟨cb, 0, none⟩)) → w.cell? ⟨cb, 0, none⟩ = some (.bool z) → w.frozen? ⟨cb, 0, none⟩ = false → Calls Try.prog 26 #[.int .i64 x, .int .i64 y, .int .i64 m, .slice (some ⟨fb, 0, none⟩) 1 1] w fun e w' => e = .returned (.agg #[.int .i32 a, .int .i32 b]) ∧ Flg w w' cb (z || c)
/-- What a closure of the program's does with a body: the k-th is y behind it, and the flag at block cb is set by c. -/
abbrev KEl (f : Nat) (fr : Array Value) (k : Int) (x y : Bd) (c : Bool) (cb : Nat) (w : World) : Prop := ∀ z : Bool, w.cell? ⟨cb, 0, none⟩ = some (.bool z) → w.frozen? ⟨cb, 0, none⟩ = false → Calls Try.prog f (#[.int .i64 k, .agg #[.int .u32 x.k, .int .i32 x.r, .int .i32 x.ax, .int .i32 x.ay, .int .i32 x.m, .int .i32 x.o, .int .i32 x.px, .int .i32 x.py, .int .i32 x.vx, .int .i32 x.vy]] ++ fr) w fun e w' => e = .returned (.agg #[.int .u32 y.k, .int .i32 y.r, .int .i32 y.ax, .int .i32 y.ay, .int .i32 y.m, .int .i32 y.o, .int .i32 y.px, .int .i32 y.py, .int .i32 y.vx, .int .i32 y.vy]) ∧ Flg w w' cb (z || c)
set_option maxRecDepth 100000 in
set_option maxHeartbeats 4000000 in
theorem yg1 {x : Bd} {k a b : Int} {c : Bool} {cb : Nat} (hm : decide (x.m = 0) = false) (h1 : IntKind.i64.wrap x.vx = x.vx) (h2 : IntKind.i64.wrap x.vy = x.vy) (h3 : IntKind.i64.wrap (x.vy - 1024) = grvY x) (X : KLm x.vx (grvY x) 16777216 a b c) (z : Bool) (w : World) (c0 : w.cell? ⟨cb, 0, none⟩ = some (.bool z)) (f0 : w.frozen? ⟨cb, 0, none⟩ = false) :
    Calls Try.prog 24 #[.int .i64 k, .agg #[.int .u32 x.k, .int .i32 x.r, .int .i32 x.ax, .int .i32 x.ay, .int .i32 x.m, .int .i32 x.o, .int .i32 x.px, .int .i32 x.py, .int .i32 x.vx, .int .i32 x.vy], .pointer (some ⟨cb, 0, none⟩)] w fun e w' => e = .returned (.agg #[.int .u32 (velB x a b).k, .int .i32 (velB x a b).r, .int .i32 (velB x a b).ax, .int .i32 (velB x a b).ay, .int .i32 (velB x a b).m, .int .i32 (velB x a b).o, .int .i32 (velB x a b).px, .int .i32 (velB x a b).py, .int .i32 (velB x a b).vx, .int .i32 (velB x a b).vy]) ∧ Flg w w' cb (z || c) := by
  have C1 := Lib.hid (kst x hm)
  have C3 := Lib.hid X
  have l0 := World.block_lt_of_cell? _ _ c0
  dsimp only at l0
  clear X hm
  go_enter Try.func24, Try.ntmps24
  go_upto_region 2 with (first
    | ((with_reducible refine (C1.out _).mono ?_); rintro e w1 ⟨rfl, g1⟩
       have gg := kep_next (kep_more (kep_more (Kep.refl _ _) _) _) g1
       have Zb : ZC w1 w.heap.size [.int .u32 x.k, .int .i32 x.r, .int .i32 x.ax, .int .i32 x.ay, .int .i32 x.m, .int .i32 x.o, .int .i32 x.px, .int .i32 x.py, .int .i32 x.vx, .int .i32 x.vy] := ZC.kep (ZC.more (zc_new' _ _ _ (by first | rfl | simp)) _) g1
       have Zr : ZC w1 (w.heap.size + 1) [.int .u32 0, .int .i32 0, .int .i32 0, .int .i32 0, .int .i32 0, .int .i32 0, .int .i32 0, .int .i32 0, .int .i32 0, .int .i32 0] := ZC.kep (zc_new' _ _ _ (by first | rfl | simp)) g1))
  have c1 := gg.all c0
  have f1 := kep_froz gg (by rw [c0]; rfl) f0
  have FG := Lib.hid (Flg.at_ c0 f0 gg)
  have hl := gg.size
  have x8 := Zb.i (i := 8) rfl
  have x9 := Zb.i (i := 9) rfl
  have zb := Zb.lt
  have n1 : w.heap.size ≠ cb := by omega
  have n2 : w.heap.size + 1 ≠ cb := by omega
  clear c0 f0
  go_upto_region 3 with (first
    | ((with_reducible refine (C3.out z _ cb _ ?_ ?_ ?_).mono ?_)
       · exact (zc_new _ _ _).i (i := 0) rfl
       · exact (kep_more (Kep.refl _ _) _).all c1
       · exact kep_froz (kep_more (Kep.refl _ _) _) (by rw [c1]; rfl) f1
       rintro e w2 ⟨rfl, h2⟩
       replace Zb := h2.fr.zc n1 n1 (Zb.more _)
       replace Zr := h2.fr.zc n2 n2 (Zr.more _)
       have q8 := Zb.frz 8
       have q9 := Zb.frz 9
       have FG2 := Lib.hid ((FG.out.kep (kep_more (Kep.refl _ _) _)).trans h2)
       clear FG h2 x8 x9 zb; have x8 := Zb.i (i := 8) rfl; have x9 := Zb.i (i := 9) rfl; have zb := Zb.lt))
  generalize hV : World.setCell _ _ _ = V
  replace Zb : ZC V (w.heap.size) [.int .u32 x.k, .int .i32 x.r, .int .i32 x.ax, .int .i32 x.ay, .int .i32 x.m, .int .i32 x.o, .int .i32 x.px, .int .i32 x.py, .int .i32 a, .int .i32 b] := by rw [← hV]; exact (Zb.put (i := 8) _ (by simp)).put (i := 9) _ (by simp)
  replace Zr : ZC V (w.heap.size + 1) [.int .u32 0, .int .i32 0, .int .i32 0, .int .i32 0, .int .i32 0, .int .i32 0, .int .i32 0, .int .i32 0, .int .i32 0, .int .i32 0] := by rw [← hV]; exact (Zr.far1 (by omega) _).far1 (by omega) _
  replace FG2 := Lib.hid (show Flg w V cb (z || c) by rw [← hV]; exact (FG2.out.far (by omega) n1 _ _).far (by omega) n1 _ _)
  clear hV x8 x9 q8 q9 c1 f1
  have Za := za_of Zb
  have r0 : V.cell? ⟨w.heap.size + 1, 0, none⟩ = some (.int .u32 0) := Zr.i (i := 0) rfl
  have r1 : V.cell? ⟨w.heap.size + 1, 1, none⟩ = some (.int .i32 0) := Zr.i (i := 1) rfl
  have r2 : V.cell? ⟨w.heap.size + 1, 2, none⟩ = some (.int .i32 0) := Zr.i (i := 2) rfl
  have r3 : V.cell? ⟨w.heap.size + 1, 3, none⟩ = some (.int .i32 0) := Zr.i (i := 3) rfl
  have r4 : V.cell? ⟨w.heap.size + 1, 4, none⟩ = some (.int .i32 0) := Zr.i (i := 4) rfl
  have r5 : V.cell? ⟨w.heap.size + 1, 5, none⟩ = some (.int .i32 0) := Zr.i (i := 5) rfl
  have r6 : V.cell? ⟨w.heap.size + 1, 6, none⟩ = some (.int .i32 0) := Zr.i (i := 6) rfl
  have r7 : V.cell? ⟨w.heap.size + 1, 7, none⟩ = some (.int .i32 0) := Zr.i (i := 7) rfl
  have r8 : V.cell? ⟨w.heap.size + 1, 8, none⟩ = some (.int .i32 0) := Zr.i (i := 8) rfl
  have r9 : V.cell? ⟨w.heap.size + 1, 9, none⟩ = some (.int .i32 0) := Zr.i (i := 9) rfl
  have fr0 : V.frozen? ⟨w.heap.size + 1, 0, none⟩ = false := Zr.frz 0
  have fr1 : V.frozen? ⟨w.heap.size + 1, 1, none⟩ = false := Zr.frz 1
  have fr2 : V.frozen? ⟨w.heap.size + 1, 2, none⟩ = false := Zr.frz 2
  have fr3 : V.frozen? ⟨w.heap.size + 1, 3, none⟩ = false := Zr.frz 3
  have fr4 : V.frozen? ⟨w.heap.size + 1, 4, none⟩ = false := Zr.frz 4
  have fr5 : V.frozen? ⟨w.heap.size + 1, 5, none⟩ = false := Zr.frz 5
  have fr6 : V.frozen? ⟨w.heap.size + 1, 6, none⟩ = false := Zr.frz 6
  have fr7 : V.frozen? ⟨w.heap.size + 1, 7, none⟩ = false := Zr.frz 7
  have fr8 : V.frozen? ⟨w.heap.size + 1, 8, none⟩ = false := Zr.frz 8
  have fr9 : V.frozen? ⟨w.heap.size + 1, 9, none⟩ = false := Zr.frz 9
  have zr := Zr.lt
  go_wp2_with fail
  have hst := Zr.set [.int .u32 x.k, .int .i32 x.r, .int .i32 x.ax, .int .i32 x.ay, .int .i32 x.m, .int .i32 x.o, .int .i32 x.px, .int .i32 x.py, .int .i32 a, .int .i32 b] (by simp)
  simp only [setAll, Nat.zero_add, Nat.reduceAdd] at hst
  have hst0 := hst.i (i := 0) rfl
  have hst1 := hst.i (i := 1) rfl
  have hst2 := hst.i (i := 2) rfl
  have hst3 := hst.i (i := 3) rfl
  have hst4 := hst.i (i := 4) rfl
  have hst5 := hst.i (i := 5) rfl
  have hst6 := hst.i (i := 6) rfl
  have hst7 := hst.i (i := 7) rfl
  have hst8 := hst.i (i := 8) rfl
  have hst9 := hst.i (i := 9) rfl
  exact bodyPost_ret (v := .agg #[.int .u32 x.k, .int .i32 x.r, .int .i32 x.ax, .int .i32 x.ay, .int .i32 x.m, .int .i32 x.o, .int .i32 x.px, .int .i32 x.py, .int .i32 a, .int .i32 b]) (by simp [results, Try.results24, go_sem, hst0, hst1, hst2, hst3, hst4, hst5, hst6, hst7, hst8, hst9]) rfl ⟨rfl, Flg.sets (b := w.heap.size + 1) (by omega) n2 [.int .u32 x.k, .int .i32 x.r, .int .i32 x.ax, .int .i32 x.ay, .int .i32 x.m, .int .i32 x.o, .int .i32 x.px, .int .i32 x.py, .int .i32 a, .int .i32 b] 0 FG2.out⟩
set_option maxRecDepth 100000 in
set_option maxHeartbeats 4000000 in
theorem yg0 {x : Bd} {k : Int} {cb : Nat} (hm : decide (x.m = 0) = true) (z : Bool) (w : World) (c0 : w.cell? ⟨cb, 0, none⟩ = some (.bool z)) (f0 : w.frozen? ⟨cb, 0, none⟩ = false) :
    Calls Try.prog 24 #[.int .i64 k, .agg #[.int .u32 x.k, .int .i32 x.r, .int .i32 x.ax, .int .i32 x.ay, .int .i32 x.m, .int .i32 x.o, .int .i32 x.px, .int .i32 x.py, .int .i32 x.vx, .int .i32 x.vy], .pointer (some ⟨cb, 0, none⟩)] w fun e w' => e = .returned (.agg #[.int .u32 x.k, .int .i32 x.r, .int .i32 x.ax, .int .i32 x.ay, .int .i32 x.m, .int .i32 x.o, .int .i32 x.px, .int .i32 x.py, .int .i32 x.vx, .int .i32 x.vy]) ∧ Flg w w' cb z := by
  have C1 := Lib.hid (kst x hm)
  have l0 := World.block_lt_of_cell? _ _ c0
  dsimp only at l0
  clear hm
  go_enter Try.func24, Try.ntmps24
  go_upto_region 3 with (first
    | ((with_reducible refine (C1.out _).mono ?_); rintro e V ⟨rfl, g1⟩
       have gg := kep_next (kep_more (kep_more (Kep.refl _ _) _) _) g1
       have Zb : ZC V w.heap.size [.int .u32 x.k, .int .i32 x.r, .int .i32 x.ax, .int .i32 x.ay, .int .i32 x.m, .int .i32 x.o, .int .i32 x.px, .int .i32 x.py, .int .i32 x.vx, .int .i32 x.vy] := ZC.kep (ZC.more (zc_new' _ _ _ (by first | rfl | simp)) _) g1
       have Zr : ZC V (w.heap.size + 1) [.int .u32 0, .int .i32 0, .int .i32 0, .int .i32 0, .int .i32 0, .int .i32 0, .int .i32 0, .int .i32 0, .int .i32 0, .int .i32 0] := ZC.kep (zc_new' _ _ _ (by first | rfl | simp)) g1))
  have FG2 := Lib.hid (Flg.at_ c0 f0 gg)
  have hl := gg.size
  have n2 : w.heap.size + 1 ≠ cb := by omega
  clear c0 f0
  have Za := za_of Zb
  have r0 : V.cell? ⟨w.heap.size + 1, 0, none⟩ = some (.int .u32 0) := Zr.i (i := 0) rfl
  have r1 : V.cell? ⟨w.heap.size + 1, 1, none⟩ = some (.int .i32 0) := Zr.i (i := 1) rfl
  have r2 : V.cell? ⟨w.heap.size + 1, 2, none⟩ = some (.int .i32 0) := Zr.i (i := 2) rfl
  have r3 : V.cell? ⟨w.heap.size + 1, 3, none⟩ = some (.int .i32 0) := Zr.i (i := 3) rfl
  have r4 : V.cell? ⟨w.heap.size + 1, 4, none⟩ = some (.int .i32 0) := Zr.i (i := 4) rfl
  have r5 : V.cell? ⟨w.heap.size + 1, 5, none⟩ = some (.int .i32 0) := Zr.i (i := 5) rfl
  have r6 : V.cell? ⟨w.heap.size + 1, 6, none⟩ = some (.int .i32 0) := Zr.i (i := 6) rfl
  have r7 : V.cell? ⟨w.heap.size + 1, 7, none⟩ = some (.int .i32 0) := Zr.i (i := 7) rfl
  have r8 : V.cell? ⟨w.heap.size + 1, 8, none⟩ = some (.int .i32 0) := Zr.i (i := 8) rfl
  have r9 : V.cell? ⟨w.heap.size + 1, 9, none⟩ = some (.int .i32 0) := Zr.i (i := 9) rfl
  have fr0 : V.frozen? ⟨w.heap.size + 1, 0, none⟩ = false := Zr.frz 0
  have fr1 : V.frozen? ⟨w.heap.size + 1, 1, none⟩ = false := Zr.frz 1
  have fr2 : V.frozen? ⟨w.heap.size + 1, 2, none⟩ = false := Zr.frz 2
  have fr3 : V.frozen? ⟨w.heap.size + 1, 3, none⟩ = false := Zr.frz 3
  have fr4 : V.frozen? ⟨w.heap.size + 1, 4, none⟩ = false := Zr.frz 4
  have fr5 : V.frozen? ⟨w.heap.size + 1, 5, none⟩ = false := Zr.frz 5
  have fr6 : V.frozen? ⟨w.heap.size + 1, 6, none⟩ = false := Zr.frz 6
  have fr7 : V.frozen? ⟨w.heap.size + 1, 7, none⟩ = false := Zr.frz 7
  have fr8 : V.frozen? ⟨w.heap.size + 1, 8, none⟩ = false := Zr.frz 8
  have fr9 : V.frozen? ⟨w.heap.size + 1, 9, none⟩ = false := Zr.frz 9
  have zr := Zr.lt
  go_wp2_with fail
  have hst := Zr.set [.int .u32 x.k, .int .i32 x.r, .int .i32 x.ax, .int .i32 x.ay, .int .i32 x.m, .int .i32 x.o, .int .i32 x.px, .int .i32 x.py, .int .i32 x.vx, .int .i32 x.vy] (by simp)
  simp only [setAll, Nat.zero_add, Nat.reduceAdd] at hst
  have hst0 := hst.i (i := 0) rfl
  have hst1 := hst.i (i := 1) rfl
  have hst2 := hst.i (i := 2) rfl
  have hst3 := hst.i (i := 3) rfl
  have hst4 := hst.i (i := 4) rfl
  have hst5 := hst.i (i := 5) rfl
  have hst6 := hst.i (i := 6) rfl
  have hst7 := hst.i (i := 7) rfl
  have hst8 := hst.i (i := 8) rfl
  have hst9 := hst.i (i := 9) rfl
  exact bodyPost_ret (v := .agg #[.int .u32 x.k, .int .i32 x.r, .int .i32 x.ax, .int .i32 x.ay, .int .i32 x.m, .int .i32 x.o, .int .i32 x.px, .int .i32 x.py, .int .i32 x.vx, .int .i32 x.vy]) (by simp [results, Try.results24, go_sem, hst0, hst1, hst2, hst3, hst4, hst5, hst6, hst7, hst8, hst9]) rfl ⟨rfl, Flg.sets (b := w.heap.size + 1) (by omega) n2 [.int .u32 x.k, .int .i32 x.r, .int .i32 x.ax, .int .i32 x.ay, .int .i32 x.m, .int .i32 x.o, .int .i32 x.px, .int .i32 x.py, .int .i32 x.vx, .int .i32 x.vy] 0 FG2.out⟩
theorem lim_eq {n l : Int} (h : -l ≤ n ∧ n ≤ l) : lim n l = n := by unfold lim; omega
theorem klm {x y m a b : Int} {c : Bool} (ha : -2147483648 ≤ a ∧ a < 2147483648) (hb : -2147483648 ≤ b ∧ b < 2147483648) (X1 : Lim2 x m a) (X2 : Lim2 y m b) (hc : ((a != x) || (b != y)) = c) : KLm x y m a b c := fun z fb cb w p0 c0 f0 => by
  have := ylim (by rw [IntKind.wrap_i32]; omega) (by rw [IntKind.wrap_i32]; omega) X1 X2 rfl rfl w p0 c0 f0
  rw [Bool.or_assoc, hc] at this
  exact this
theorem yg {x : Bd} {k : Int} {cb : Nat} (h : okI x) (w : World) : KEl 24 #[.pointer (some ⟨cb, 0, none⟩)] k x (grvB x) (grvC x) cb w := fun z c0 f0 => by
  have vb := vb_of h
  have m0 := vb.m0
  have vx0 := vb.vx0; have vx1 := vb.vx1; have vy0 := vb.vy0; have vy1 := vb.vy1
  have gb := grvY_bd vb
  by_cases hm : x.m = 0
  · have e1 : grvB x = x := if_neg (by omega)
    have e2 : grvC x = false := by unfold grvC; rw [decide_eq_false (by omega), Bool.false_and]
    rw [e1, e2, Bool.or_false]
    exact yg0 (decide_eq_true hm) z w c0 f0
  · have e1 : grvB x = velB x x.vx (limJ (grvY x)) := if_pos (by omega)
    have e2 : ((x.vx != x.vx) || (limJ (grvY x) != grvY x)) = grvC x := by
      unfold grvC
      rw [decide_eq_true (show 0 < x.m by omega), Bool.eq_iff_iff]
      simp [bne_iff_ne]
    rw [e1]
    have b := limJ_bd (grvY x)
    exact yg1 (a := x.vx) (b := limJ (grvY x)) (decide_eq_false hm) (by rw [IntKind.wrap_i64]; omega) (by rw [IntKind.wrap_i64]; omega) (by rw [IntKind.wrap_i64]; unfold grvY; omega) (klm ⟨by omega, by omega⟩ ⟨by omega, by omega⟩ (lim2 ⟨by omega, by omega⟩ (by decide) (by decide) (lim_eq ⟨by omega, by omega⟩)) (lim2 ⟨by omega, by omega⟩ (by decide) (by decide) rfl) e2) z w c0 f0
end Go.Proofs.Ytlabeelbbkbkaaa
