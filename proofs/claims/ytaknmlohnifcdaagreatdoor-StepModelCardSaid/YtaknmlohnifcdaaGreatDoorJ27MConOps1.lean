import Derived.Test.YtaknmlohnifcdaaGreatDoorJ23MPointCon
import Derived.Test.YtaknmlohnifcdaaGreatDoorMSegOps
import Derived.Test.YtaknmlohnifcdaaGreatDoorJ07MBodyCon
import Derived.Test.YtaknmlohnifcdaaGreatDoorJ02MSeq
import Derived.Deep.DeepCutAuto
import Derived.Deep.QuietTactic
import Derived.BigQuiet
set_option maxHeartbeats 4000000
set_option maxRecDepth 100000
namespace Go.Proofs.YtaknmlohnifcdaaGreatDoor
open Go.RowKit Go.Lib
abbrev KSh (x : Bd) (a b c d : Int) : Prop := ∀ w, Calls Tryz.prog 119 #[.agg #[.int .u32 x.k, .int .i32 x.r, .int .i32 x.ax, .int .i32 x.ay, .int .i32 x.m, .int .i32 x.o, .int .i32 x.px, .int .i32 x.py, .int .i32 x.vx, .int .i32 x.vy]] w fun e w' => e = .returned (.agg #[.int .u32 x.k, .int .i32 x.r, .int .i32 x.ax, .int .i32 x.ay, .int .i32 x.m, .int .i32 x.o, .int .i32 x.px, .int .i32 x.py, .int .i32 x.vx, .int .i32 x.vy, .int .i32 a, .int .i32 b, .int .i32 c, .int .i32 d]) ∧ Kep w.heap.size w w'
abbrev KEn (x : Bd) (a b c d : Int) : Prop := ∀ w, Calls Tryz.prog 148 #[.agg #[.int .u32 x.k, .int .i32 x.r, .int .i32 x.ax, .int .i32 x.ay, .int .i32 x.m, .int .i32 x.o, .int .i32 x.px, .int .i32 x.py, .int .i32 x.vx, .int .i32 x.vy]] w fun e w' => e = .returned (.tuple #[.agg #[.int .i32 a, .int .i32 b], .agg #[.int .i32 c, .int .i32 d]]) ∧ Kep w.heap.size w w'
theorem ken {x : Bd} (h : okC x) : KEn x (x.px - x.ax) (x.py - x.ay) (x.px + x.ax) (x.py + x.ay) := fun w => by
 have l := okC_lim h
 exact kep_calls (end_in x.k x.r x.ax x.ay x.m x.o x.px x.py x.vx x.vy _ _ _ _ l.2.1.1 l.2.1.2 (by omega) (by omega) rfl rfl rfl rfl w)
theorem ksh {x : Bd} {a b c d : Int} (C : KEn x a b c d) : KSh x a b c d := fun w => by
 have C1 := Lib.hid C
 clear C
 go_enter Tryz.func119, Tryz.ntmps119
 go_upto_region 2 with (first
  | ((with_reducible refine (C1.out _).mono ?_); rintro e w1 ⟨rfl, g1⟩
     have gg := kep_next (kep_more (kep_more (Kep.refl _ _) _) _) g1
     have Zx : ZC w1 (w.heap.size) [.int .u32 x.k, .int .i32 x.r, .int .i32 x.ax, .int .i32 x.ay, .int .i32 x.m, .int .i32 x.o, .int .i32 x.px, .int .i32 x.py, .int .i32 x.vx, .int .i32 x.vy] := ZC.kep (ZC.more (zc_new' _ _ _ (by first | rfl | simp)) _) g1
     have Zr : ZC w1 (w.heap.size + 1) [.int .u32 0, .int .i32 0, .int .i32 0, .int .i32 0, .int .i32 0, .int .i32 0, .int .i32 0, .int .i32 0, .int .i32 0, .int .i32 0, .int .i32 0, .int .i32 0, .int .i32 0, .int .i32 0] := ZC.kep (zc_new' _ _ _ (by first | rfl | simp)) g1))
 have q1 := gg.size
 generalize hW : World.alloc (World.alloc w1 _) _ = W2
 replace Zx : ZC W2 (w.heap.size) [.int .u32 x.k, .int .i32 x.r, .int .i32 x.ax, .int .i32 x.ay, .int .i32 x.m, .int .i32 x.o, .int .i32 x.px, .int .i32 x.py, .int .i32 x.vx, .int .i32 x.vy] := by rw [← hW]; exact (ZC.more (ZC.more Zx _) _)
 replace Zr : ZC W2 (w.heap.size + 1) [.int .u32 0, .int .i32 0, .int .i32 0, .int .i32 0, .int .i32 0, .int .i32 0, .int .i32 0, .int .i32 0, .int .i32 0, .int .i32 0, .int .i32 0, .int .i32 0, .int .i32 0, .int .i32 0] := by rw [← hW]; exact (ZC.more (ZC.more Zr _) _)
 have Zu : ZC W2 (w1.heap.size) [.int .i32 a, .int .i32 b] := by rw [← hW]; exact (ZC.more (zc_new' _ _ _ (by first | rfl | simp)) _)
 have Zv : ZC W2 (w1.heap.size + 1) [.int .i32 c, .int .i32 d] := by rw [← hW]; exact (zc_new' _ _ _ (by first | rfl | simp))
 replace gg : Kep w.heap.size w W2 := by rw [← hW]; exact (kep_more (kep_more gg _) _)
 clear hW
 have x0 := Zx.i (i := 0) rfl
 have x1 := Zx.i (i := 1) rfl
 have x2 := Zx.i (i := 2) rfl
 have x3 := Zx.i (i := 3) rfl
 have x4 := Zx.i (i := 4) rfl
 have x5 := Zx.i (i := 5) rfl
 have x6 := Zx.i (i := 6) rfl
 have x7 := Zx.i (i := 7) rfl
 have x8 := Zx.i (i := 8) rfl
 have x9 := Zx.i (i := 9) rfl
 have zx := Zx.lt
 have r0 := Zr.i (i := 0) rfl
 have r1 := Zr.i (i := 1) rfl
 have r2 := Zr.i (i := 2) rfl
 have r3 := Zr.i (i := 3) rfl
 have r4 := Zr.i (i := 4) rfl
 have r5 := Zr.i (i := 5) rfl
 have r6 := Zr.i (i := 6) rfl
 have r7 := Zr.i (i := 7) rfl
 have r8 := Zr.i (i := 8) rfl
 have r9 := Zr.i (i := 9) rfl
 have r10 := Zr.i (i := 10) rfl
 have r11 := Zr.i (i := 11) rfl
 have r12 := Zr.i (i := 12) rfl
 have r13 := Zr.i (i := 13) rfl
 have fr0 : W2.frozen? ⟨w.heap.size + 1, 0, none⟩ = false := Zr.frz 0
 have fr1 : W2.frozen? ⟨w.heap.size + 1, 1, none⟩ = false := Zr.frz 1
 have fr2 : W2.frozen? ⟨w.heap.size + 1, 2, none⟩ = false := Zr.frz 2
 have fr3 : W2.frozen? ⟨w.heap.size + 1, 3, none⟩ = false := Zr.frz 3
 have fr4 : W2.frozen? ⟨w.heap.size + 1, 4, none⟩ = false := Zr.frz 4
 have fr5 : W2.frozen? ⟨w.heap.size + 1, 5, none⟩ = false := Zr.frz 5
 have fr6 : W2.frozen? ⟨w.heap.size + 1, 6, none⟩ = false := Zr.frz 6
 have fr7 : W2.frozen? ⟨w.heap.size + 1, 7, none⟩ = false := Zr.frz 7
 have fr8 : W2.frozen? ⟨w.heap.size + 1, 8, none⟩ = false := Zr.frz 8
 have fr9 : W2.frozen? ⟨w.heap.size + 1, 9, none⟩ = false := Zr.frz 9
 have fr10 : W2.frozen? ⟨w.heap.size + 1, 10, none⟩ = false := Zr.frz 10
 have fr11 : W2.frozen? ⟨w.heap.size + 1, 11, none⟩ = false := Zr.frz 11
 have fr12 : W2.frozen? ⟨w.heap.size + 1, 12, none⟩ = false := Zr.frz 12
 have fr13 : W2.frozen? ⟨w.heap.size + 1, 13, none⟩ = false := Zr.frz 13
 have zr := Zr.lt
 have u0 := Zu.i (i := 0) rfl
 have u1 := Zu.i (i := 1) rfl
 have zu := Zu.lt
 have v0 := Zv.i (i := 0) rfl
 have v1 := Zv.i (i := 1) rfl
 have zv := Zv.lt
 go_wp2_with fail
 have hst := Zr.set [.int .u32 x.k, .int .i32 x.r, .int .i32 x.ax, .int .i32 x.ay, .int .i32 x.m, .int .i32 x.o, .int .i32 x.px, .int .i32 x.py, .int .i32 x.vx, .int .i32 x.vy, .int .i32 a, .int .i32 b, .int .i32 c, .int .i32 d] (by simp)
 simp only [setAll, Nat.zero_add, Nat.reduceAdd] at hst
 have hst0 := hst.i (i := 0) rfl
 have hst1 := hst.i (i := 1) rfl
 have hst2 := hst.i (i := 2) rfl
 have hst3 := hst.i (i := 3) rfl
 have hst4 := hst.i (i := 4) rfl
 have hst5 := hst.i (i := 5) rfl
 have hst6 := hst.i (i := 6) rfl
 have hst7 := hst.i (i := 7) rfl
 have hst8 := hst.i (i := 8) rfl
 have hst9 := hst.i (i := 9) rfl
 have hst10 := hst.i (i := 10) rfl
 have hst11 := hst.i (i := 11) rfl
 have hst12 := hst.i (i := 12) rfl
 have hst13 := hst.i (i := 13) rfl
 exact bodyPost_ret (v := .agg #[.int .u32 x.k, .int .i32 x.r, .int .i32 x.ax, .int .i32 x.ay, .int .i32 x.m, .int .i32 x.o, .int .i32 x.px, .int .i32 x.py, .int .i32 x.vx, .int .i32 x.vy, .int .i32 a, .int .i32 b, .int .i32 c, .int .i32 d]) (by simp [results, Tryz.results119, go_sem, hst0, hst1, hst2, hst3, hst4, hst5, hst6, hst7, hst8, hst9, hst10, hst11, hst12, hst13]) rfl ⟨rfl, by simpa only [setAll, Nat.zero_add, Nat.reduceAdd] using kep_setAll (by omega) [.int .u32 x.k, .int .i32 x.r, .int .i32 x.ax, .int .i32 x.ay, .int .i32 x.m, .int .i32 x.o, .int .i32 x.px, .int .i32 x.py, .int .i32 x.vx, .int .i32 x.vy, .int .i32 a, .int .i32 b, .int .i32 c, .int .i32 d] 0 gg⟩
abbrev KOd (x y l h : Bd) (a b c d p q r s : Int) : Prop := ∀ w, Calls Tryz.prog 95 #[.agg #[.int .u32 x.k, .int .i32 x.r, .int .i32 x.ax, .int .i32 x.ay, .int .i32 x.m, .int .i32 x.o, .int .i32 x.px, .int .i32 x.py, .int .i32 x.vx, .int .i32 x.vy], .agg #[.int .u32 y.k, .int .i32 y.r, .int .i32 y.ax, .int .i32 y.ay, .int .i32 y.m, .int .i32 y.o, .int .i32 y.px, .int .i32 y.py, .int .i32 y.vx, .int .i32 y.vy]] w fun e w' => e = .returned (.tuple #[.agg #[.int .u32 l.k, .int .i32 l.r, .int .i32 l.ax, .int .i32 l.ay, .int .i32 l.m, .int .i32 l.o, .int .i32 l.px, .int .i32 l.py, .int .i32 l.vx, .int .i32 l.vy, .int .i32 a, .int .i32 b, .int .i32 c, .int .i32 d], .agg #[.int .u32 h.k, .int .i32 h.r, .int .i32 h.ax, .int .i32 h.ay, .int .i32 h.m, .int .i32 h.o, .int .i32 h.px, .int .i32 h.py, .int .i32 h.vx, .int .i32 h.vy, .int .i32 p, .int .i32 q, .int .i32 r, .int .i32 s]]) ∧ Kep w.heap.size w w'
theorem kod1 {x y : Bd} {a b c d p q r s : Int} (hc : y.k < x.k) (C : KSh y a b c d) (D : KSh x p q r s) : KOd x y y x a b c d p q r s := fun w => by
 have hd : decide (y.k < x.k) = true := decide_eq_true hc
 clear hc
 have C1 := Lib.hid C
 have C2 := Lib.hid D
 clear C D
 go_enter Tryz.func95, Tryz.ntmps95
 go_upto_region 3 with fail
 generalize hW : World.alloc (World.alloc (World.alloc (World.alloc w _) _) _) _ = W1
 have Za : ZC W1 (w.heap.size) [.int .u32 y.k, .int .i32 y.r, .int .i32 y.ax, .int .i32 y.ay, .int .i32 y.m, .int .i32 y.o, .int .i32 y.px, .int .i32 y.py, .int .i32 y.vx, .int .i32 y.vy] := by rw [← hW]; exact (ZC.more (ZC.more (ZC.more (zc_new' _ _ _ (by first | rfl | simp)) _) _) _)
 have Zb : ZC W1 (w.heap.size + 1) [.int .u32 x.k, .int .i32 x.r, .int .i32 x.ax, .int .i32 x.ay, .int .i32 x.m, .int .i32 x.o, .int .i32 x.px, .int .i32 x.py, .int .i32 x.vx, .int .i32 x.vy] := by rw [← hW]; exact (ZC.more (ZC.more (zc_new' _ _ _ (by first | rfl | simp)) _) _)
 have Zm : ZC W1 (w.heap.size + 1 + 1) [.int .u32 0, .int .i32 0, .int .i32 0, .int .i32 0, .int .i32 0, .int .i32 0, .int .i32 0, .int .i32 0, .int .i32 0, .int .i32 0, .int .i32 0, .int .i32 0, .int .i32 0, .int .i32 0] := by rw [← hW]; exact (ZC.more (zc_new' _ _ _ (by first | rfl | simp)) _)
 have Zn : ZC W1 (w.heap.size + 1 + 1 + 1) [.int .u32 0, .int .i32 0, .int .i32 0, .int .i32 0, .int .i32 0, .int .i32 0, .int .i32 0, .int .i32 0, .int .i32 0, .int .i32 0, .int .i32 0, .int .i32 0, .int .i32 0, .int .i32 0] := by rw [← hW]; exact (zc_new' _ _ _ (by first | rfl | simp))
 have gg : Kep w.heap.size w W1 := by rw [← hW]; exact (kep_more (kep_more (kep_more (kep_more (Kep.refl _ _) _) _) _) _)
 clear hW
 refine wp_region_noPanic ?_
 refine wp_region_held_drew (S := (fun w' => ZC w' (w.heap.size) [.int .u32 y.k, .int .i32 y.r, .int .i32 y.ax, .int .i32 y.ay, .int .i32 y.m, .int .i32 y.o, .int .i32 y.px, .int .i32 y.py, .int .i32 y.vx, .int .i32 y.vy] ∧ ZC w' (w.heap.size + 1) [.int .u32 x.k, .int .i32 x.r, .int .i32 x.ax, .int .i32 x.ay, .int .i32 x.m, .int .i32 x.o, .int .i32 x.px, .int .i32 x.py, .int .i32 x.vx, .int .i32 x.vy] ∧ (∃ l : List Value, l.length = 14 ∧ ZC w' (w.heap.size + 1 + 1) l) ∧ (∃ l : List Value, l.length = 14 ∧ ZC w' (w.heap.size + 1 + 1 + 1) l) ∧ Kep w.heap.size w w')) (by kernel_rfl) (⟨Za.drew, Zb.drew, ⟨_, by rfl, Zm.drew⟩, ⟨_, by rfl, Zn.drew⟩, kep_drew gg⟩) (fun hH => ?_)
 have Ym := Zm.drew
 have Yn := Zn.drew
 clear Za Zb Zm Zn gg
 refine rtk 0 (oi := ⟨some 13, .load 40 (.tmp 2), _, _, _, none⟩) (v := ?_) rfl ?_ hH ?_
 rotate_left
 ·(intro wq hSw; (try dsimp only at hSw); obtain ⟨Za, Zb, -, -, -⟩ := hSw; replace Za := za_of Za; replace Zb := za_of Zb; go_simp; (try with_reducible rfl))
 refine rtk 2 (oi := ⟨some 15, .load 40 (.tmp 3), _, _, _, none⟩) (v := ?_) rfl ?_ hH ?_
 rotate_left
 ·(intro wq hSw; (try dsimp only at hSw); obtain ⟨Za, Zb, -, -, -⟩ := hSw; replace Za := za_of Za; replace Zb := za_of Zb; go_simp; (try with_reducible rfl))
 try simp only [Act.put, List.setIfInBounds_toArray, List.set_cons_zero, List.set_cons_succ]
 refine sC 1 (fun K hK => ?_)
 go_simp
 (with_reducible refine (C1.out _).mono ?_); rintro e v3_1 ⟨rfl, g⟩
 replace Ym := Ym.kep g
 replace Yn := Yn.kep g
 refine hK.out _ _ (by (try dsimp only); obtain ⟨Za, Zb, _, _, gg⟩ := id hH; exact ⟨Za.kep g, Zb.kep g, ⟨_, by rfl, Ym⟩, ⟨_, by rfl, Yn⟩, kep_next gg g⟩) (fun hH2 => ?_)
 clear hK K hH; have hH := hH2; clear hH2
 try simp only [Act.put, List.setIfInBounds_toArray, List.set_cons_zero, List.set_cons_succ]
 refine sC 3 (fun K hK => ?_)
 go_simp
 (with_reducible refine (C2.out _).mono ?_); rintro e v3_3 ⟨rfl, g⟩
 replace Ym := Ym.kep g
 replace Yn := Yn.kep g
 refine hK.out _ _ (by (try dsimp only); obtain ⟨Za, Zb, _, _, gg⟩ := id hH; exact ⟨Za.kep g, Zb.kep g, ⟨_, by rfl, Ym⟩, ⟨_, by rfl, Yn⟩, kep_next gg g⟩) (fun hH2 => ?_)
 clear hK K hH; have hH := hH2; clear hH2
 try simp only [Act.put, List.setIfInBounds_toArray, List.set_cons_zero, List.set_cons_succ]
 refine sC 4 (fun K hK => ?_)
 obtain ⟨Za, Zb, _, _, gg⟩ := id hH
 have sm0 := Ym.i (i := 0) rfl
 have sm1 := Ym.i (i := 1) rfl
 have sm2 := Ym.i (i := 2) rfl
 have sm3 := Ym.i (i := 3) rfl
 have sm4 := Ym.i (i := 4) rfl
 have sm5 := Ym.i (i := 5) rfl
 have sm6 := Ym.i (i := 6) rfl
 have sm7 := Ym.i (i := 7) rfl
 have sm8 := Ym.i (i := 8) rfl
 have sm9 := Ym.i (i := 9) rfl
 have sm10 := Ym.i (i := 10) rfl
 have sm11 := Ym.i (i := 11) rfl
 have sm12 := Ym.i (i := 12) rfl
 have sm13 := Ym.i (i := 13) rfl
 have sfm0 := Ym.frz 0
 have sfm1 := Ym.frz 1
 have sfm2 := Ym.frz 2
 have sfm3 := Ym.frz 3
 have sfm4 := Ym.frz 4
 have sfm5 := Ym.frz 5
 have sfm6 := Ym.frz 6
 have sfm7 := Ym.frz 7
 have sfm8 := Ym.frz 8
 have sfm9 := Ym.frz 9
 have sfm10 := Ym.frz 10
 have sfm11 := Ym.frz 11
 have sfm12 := Ym.frz 12
 have sfm13 := Ym.frz 13
 have szm := Ym.lt
 have zq := gg.size
 have ka := Za.lt
 have kb := Zb.lt
 have km := Ym.lt
 have kn := Yn.lt
 go_simp
 clear sm0 sm1 sm2 sm3 sm4 sm5 sm6 sm7 sm8 sm9 sm10 sm11 sm12 sm13 sfm0 sfm1 sfm2 sfm3 sfm4 sfm5 sfm6 sfm7 sfm8 sfm9 sfm10 sfm11 sfm12 sfm13 szm
 replace Ym := Ym.set [.int .u32 y.k, .int .i32 y.r, .int .i32 y.ax, .int .i32 y.ay, .int .i32 y.m, .int .i32 y.o, .int .i32 y.px, .int .i32 y.py, .int .i32 y.vx, .int .i32 y.vy, .int .i32 a, .int .i32 b, .int .i32 c, .int .i32 d] (by simp)
 replace Yn := Yn.far (b := w.heap.size + 1 + 1) (by first | (simp; done) | (simp; omega)) [.int .u32 y.k, .int .i32 y.r, .int .i32 y.ax, .int .i32 y.ay, .int .i32 y.m, .int .i32 y.o, .int .i32 y.px, .int .i32 y.py, .int .i32 y.vx, .int .i32 y.vy, .int .i32 a, .int .i32 b, .int .i32 c, .int .i32 d]
 simp only [setAll, Nat.zero_add, Nat.reduceAdd] at Ym Yn
 refine hK.out _ _ (by (try dsimp only); exact ⟨by simpa only [setAll, Nat.zero_add, Nat.reduceAdd] using Za.far (b := w.heap.size + 1 + 1) (by first | (simp; done) | (simp; omega)) [.int .u32 y.k, .int .i32 y.r, .int .i32 y.ax, .int .i32 y.ay, .int .i32 y.m, .int .i32 y.o, .int .i32 y.px, .int .i32 y.py, .int .i32 y.vx, .int .i32 y.vy, .int .i32 a, .int .i32 b, .int .i32 c, .int .i32 d], by simpa only [setAll, Nat.zero_add, Nat.reduceAdd] using Zb.far (b := w.heap.size + 1 + 1) (by first | (simp; done) | (simp; omega)) [.int .u32 y.k, .int .i32 y.r, .int .i32 y.ax, .int .i32 y.ay, .int .i32 y.m, .int .i32 y.o, .int .i32 y.px, .int .i32 y.py, .int .i32 y.vx, .int .i32 y.vy, .int .i32 a, .int .i32 b, .int .i32 c, .int .i32 d], ⟨_, by rfl, Ym⟩, ⟨_, by rfl, Yn⟩, by simpa only [setAll, Nat.zero_add, Nat.reduceAdd] using kep_setAll (by first | omega | (simp; omega)) [.int .u32 y.k, .int .i32 y.r, .int .i32 y.ax, .int .i32 y.ay, .int .i32 y.m, .int .i32 y.o, .int .i32 y.px, .int .i32 y.py, .int .i32 y.vx, .int .i32 y.vy, .int .i32 a, .int .i32 b, .int .i32 c, .int .i32 d] 0 gg⟩) (fun hH2 => ?_)
 clear zq ka kb km kn Za Zb gg
 clear hK K hH; have hH := hH2; clear hH2
 revert Ym Yn hH; generalize World.setCell _ _ _ = V3_4; intro Ym Yn hH
 try simp only [Act.put, List.setIfInBounds_toArray, List.set_cons_zero, List.set_cons_succ]
 refine sC 5 (fun K hK => ?_)
 obtain ⟨Za, Zb, _, _, gg⟩ := id hH
 have sn0 := Yn.i (i := 0) rfl
 have sn1 := Yn.i (i := 1) rfl
 have sn2 := Yn.i (i := 2) rfl
 have sn3 := Yn.i (i := 3) rfl
 have sn4 := Yn.i (i := 4) rfl
 have sn5 := Yn.i (i := 5) rfl
 have sn6 := Yn.i (i := 6) rfl
 have sn7 := Yn.i (i := 7) rfl
 have sn8 := Yn.i (i := 8) rfl
 have sn9 := Yn.i (i := 9) rfl
 have sn10 := Yn.i (i := 10) rfl
 have sn11 := Yn.i (i := 11) rfl
 have sn12 := Yn.i (i := 12) rfl
 have sn13 := Yn.i (i := 13) rfl
 have sfn0 := Yn.frz 0
 have sfn1 := Yn.frz 1
 have sfn2 := Yn.frz 2
 have sfn3 := Yn.frz 3
 have sfn4 := Yn.frz 4
 have sfn5 := Yn.frz 5
 have sfn6 := Yn.frz 6
 have sfn7 := Yn.frz 7
 have sfn8 := Yn.frz 8
 have sfn9 := Yn.frz 9
 have sfn10 := Yn.frz 10
 have sfn11 := Yn.frz 11
 have sfn12 := Yn.frz 12
 have sfn13 := Yn.frz 13
 have szn := Yn.lt
 have zq := gg.size
 have ka := Za.lt
 have kb := Zb.lt
 have km := Ym.lt
 have kn := Yn.lt
 go_simp
 clear sn0 sn1 sn2 sn3 sn4 sn5 sn6 sn7 sn8 sn9 sn10 sn11 sn12 sn13 sfn0 sfn1 sfn2 sfn3 sfn4 sfn5 sfn6 sfn7 sfn8 sfn9 sfn10 sfn11 sfn12 sfn13 szn
 replace Ym := Ym.far (b := w.heap.size + 1 + 1 + 1) (by first | (simp; done) | (simp; omega)) [.int .u32 x.k, .int .i32 x.r, .int .i32 x.ax, .int .i32 x.ay, .int .i32 x.m, .int .i32 x.o, .int .i32 x.px, .int .i32 x.py, .int .i32 x.vx, .int .i32 x.vy, .int .i32 p, .int .i32 q, .int .i32 r, .int .i32 s]
 replace Yn := Yn.set [.int .u32 x.k, .int .i32 x.r, .int .i32 x.ax, .int .i32 x.ay, .int .i32 x.m, .int .i32 x.o, .int .i32 x.px, .int .i32 x.py, .int .i32 x.vx, .int .i32 x.vy, .int .i32 p, .int .i32 q, .int .i32 r, .int .i32 s] (by simp)
 simp only [setAll, Nat.zero_add, Nat.reduceAdd] at Ym Yn
 refine hK.out _ _ (by (try dsimp only); exact ⟨by simpa only [setAll, Nat.zero_add, Nat.reduceAdd] using Za.far (b := w.heap.size + 1 + 1 + 1) (by first | (simp; done) | (simp; omega)) [.int .u32 x.k, .int .i32 x.r, .int .i32 x.ax, .int .i32 x.ay, .int .i32 x.m, .int .i32 x.o, .int .i32 x.px, .int .i32 x.py, .int .i32 x.vx, .int .i32 x.vy, .int .i32 p, .int .i32 q, .int .i32 r, .int .i32 s], by simpa only [setAll, Nat.zero_add, Nat.reduceAdd] using Zb.far (b := w.heap.size + 1 + 1 + 1) (by first | (simp; done) | (simp; omega)) [.int .u32 x.k, .int .i32 x.r, .int .i32 x.ax, .int .i32 x.ay, .int .i32 x.m, .int .i32 x.o, .int .i32 x.px, .int .i32 x.py, .int .i32 x.vx, .int .i32 x.vy, .int .i32 p, .int .i32 q, .int .i32 r, .int .i32 s], ⟨_, by rfl, Ym⟩, ⟨_, by rfl, Yn⟩, by simpa only [setAll, Nat.zero_add, Nat.reduceAdd] using kep_setAll (by first | omega | (simp; omega)) [.int .u32 x.k, .int .i32 x.r, .int .i32 x.ax, .int .i32 x.ay, .int .i32 x.m, .int .i32 x.o, .int .i32 x.px, .int .i32 x.py, .int .i32 x.vx, .int .i32 x.vy, .int .i32 p, .int .i32 q, .int .i32 r, .int .i32 s] 0 gg⟩) (fun hH2 => ?_)
 clear zq ka kb km kn Za Zb gg
 clear hK K hH; have hH := hH2; clear hH2
 revert Ym Yn hH; generalize World.setCell _ _ _ = V3_5; intro Ym Yn hH
 try simp only [Act.put, List.setIfInBounds_toArray, List.set_cons_zero, List.set_cons_succ]
 refine sE ?_
 obtain ⟨Za, Zb, -, -, gg⟩ := hH
 have Zm := Ym; clear Ym
 have Zn := Yn; clear Yn
 go_wp2_with fail
 have m0 := Zm.i (i := 0) rfl
 have m1 := Zm.i (i := 1) rfl
 have m2 := Zm.i (i := 2) rfl
 have m3 := Zm.i (i := 3) rfl
 have m4 := Zm.i (i := 4) rfl
 have m5 := Zm.i (i := 5) rfl
 have m6 := Zm.i (i := 6) rfl
 have m7 := Zm.i (i := 7) rfl
 have m8 := Zm.i (i := 8) rfl
 have m9 := Zm.i (i := 9) rfl
 have m10 := Zm.i (i := 10) rfl
 have m11 := Zm.i (i := 11) rfl
 have m12 := Zm.i (i := 12) rfl
 have m13 := Zm.i (i := 13) rfl
 have n0 := Zn.i (i := 0) rfl
 have n1 := Zn.i (i := 1) rfl
 have n2 := Zn.i (i := 2) rfl
 have n3 := Zn.i (i := 3) rfl
 have n4 := Zn.i (i := 4) rfl
 have n5 := Zn.i (i := 5) rfl
 have n6 := Zn.i (i := 6) rfl
 have n7 := Zn.i (i := 7) rfl
 have n8 := Zn.i (i := 8) rfl
 have n9 := Zn.i (i := 9) rfl
 have n10 := Zn.i (i := 10) rfl
 have n11 := Zn.i (i := 11) rfl
 have n12 := Zn.i (i := 12) rfl
 have n13 := Zn.i (i := 13) rfl
 exact bodyPost_ret (v := .tuple #[.agg #[.int .u32 y.k, .int .i32 y.r, .int .i32 y.ax, .int .i32 y.ay, .int .i32 y.m, .int .i32 y.o, .int .i32 y.px, .int .i32 y.py, .int .i32 y.vx, .int .i32 y.vy, .int .i32 a, .int .i32 b, .int .i32 c, .int .i32 d], .agg #[.int .u32 x.k, .int .i32 x.r, .int .i32 x.ax, .int .i32 x.ay, .int .i32 x.m, .int .i32 x.o, .int .i32 x.px, .int .i32 x.py, .int .i32 x.vx, .int .i32 x.vy, .int .i32 p, .int .i32 q, .int .i32 r, .int .i32 s]]) (by simp [results, Tryz.results95, go_sem, m0, m1, m2, m3, m4, m5, m6, m7, m8, m9, m10, m11, m12, m13, n0, n1, n2, n3, n4, n5, n6, n7, n8, n9, n10, n11, n12, n13]) rfl ⟨rfl, gg⟩
theorem kod0 {x y : Bd} {a b c d p q r s : Int} (hc : ¬ y.k < x.k) (C : KSh x a b c d) (D : KSh y p q r s) : KOd x y x y a b c d p q r s := fun w => by
 have hd : decide (y.k < x.k) = false := decide_eq_false hc
 clear hc
 have C1 := Lib.hid C
 have C2 := Lib.hid D
 clear C D
 go_enter Tryz.func95, Tryz.ntmps95
 go_upto_region 3 with fail
 generalize hW : World.alloc (World.alloc (World.alloc (World.alloc w _) _) _) _ = W1
 have Za : ZC W1 (w.heap.size) [.int .u32 x.k, .int .i32 x.r, .int .i32 x.ax, .int .i32 x.ay, .int .i32 x.m, .int .i32 x.o, .int .i32 x.px, .int .i32 x.py, .int .i32 x.vx, .int .i32 x.vy] := by rw [← hW]; exact (ZC.more (ZC.more (ZC.more (zc_new' _ _ _ (by first | rfl | simp)) _) _) _)
 have Zb : ZC W1 (w.heap.size + 1) [.int .u32 y.k, .int .i32 y.r, .int .i32 y.ax, .int .i32 y.ay, .int .i32 y.m, .int .i32 y.o, .int .i32 y.px, .int .i32 y.py, .int .i32 y.vx, .int .i32 y.vy] := by rw [← hW]; exact (ZC.more (ZC.more (zc_new' _ _ _ (by first | rfl | simp)) _) _)
 have Zm : ZC W1 (w.heap.size + 1 + 1) [.int .u32 0, .int .i32 0, .int .i32 0, .int .i32 0, .int .i32 0, .int .i32 0, .int .i32 0, .int .i32 0, .int .i32 0, .int .i32 0, .int .i32 0, .int .i32 0, .int .i32 0, .int .i32 0] := by rw [← hW]; exact (ZC.more (zc_new' _ _ _ (by first | rfl | simp)) _)
 have Zn : ZC W1 (w.heap.size + 1 + 1 + 1) [.int .u32 0, .int .i32 0, .int .i32 0, .int .i32 0, .int .i32 0, .int .i32 0, .int .i32 0, .int .i32 0, .int .i32 0, .int .i32 0, .int .i32 0, .int .i32 0, .int .i32 0, .int .i32 0] := by rw [← hW]; exact (zc_new' _ _ _ (by first | rfl | simp))
 have gg : Kep w.heap.size w W1 := by rw [← hW]; exact (kep_more (kep_more (kep_more (kep_more (Kep.refl _ _) _) _) _) _)
 clear hW
 refine wp_region_noPanic ?_
 refine wp_region_held_drew (S := (fun w' => ZC w' (w.heap.size) [.int .u32 x.k, .int .i32 x.r, .int .i32 x.ax, .int .i32 x.ay, .int .i32 x.m, .int .i32 x.o, .int .i32 x.px, .int .i32 x.py, .int .i32 x.vx, .int .i32 x.vy] ∧ ZC w' (w.heap.size + 1) [.int .u32 y.k, .int .i32 y.r, .int .i32 y.ax, .int .i32 y.ay, .int .i32 y.m, .int .i32 y.o, .int .i32 y.px, .int .i32 y.py, .int .i32 y.vx, .int .i32 y.vy] ∧ (∃ l : List Value, l.length = 14 ∧ ZC w' (w.heap.size + 1 + 1) l) ∧ (∃ l : List Value, l.length = 14 ∧ ZC w' (w.heap.size + 1 + 1 + 1) l) ∧ Kep w.heap.size w w')) (by kernel_rfl) (⟨Za.drew, Zb.drew, ⟨_, by rfl, Zm.drew⟩, ⟨_, by rfl, Zn.drew⟩, kep_drew gg⟩) (fun hH => ?_)
 have Ym := Zm.drew
 have Yn := Zn.drew
 clear Za Zb Zm Zn gg
 refine rtk 0 (oi := ⟨some 13, .load 40 (.tmp 2), _, _, _, none⟩) (v := ?_) rfl ?_ hH ?_
 rotate_left
 ·(intro wq hSw; (try dsimp only at hSw); obtain ⟨Za, Zb, -, -, -⟩ := hSw; replace Za := za_of Za; replace Zb := za_of Zb; go_simp; (try with_reducible rfl))
 refine rtk 2 (oi := ⟨some 15, .load 40 (.tmp 3), _, _, _, none⟩) (v := ?_) rfl ?_ hH ?_
 rotate_left
 ·(intro wq hSw; (try dsimp only at hSw); obtain ⟨Za, Zb, -, -, -⟩ := hSw; replace Za := za_of Za; replace Zb := za_of Zb; go_simp; (try with_reducible rfl))
 try simp only [Act.put, List.setIfInBounds_toArray, List.set_cons_zero, List.set_cons_succ]
 refine sC 1 (fun K hK => ?_)
 go_simp
 (with_reducible refine (C1.out _).mono ?_); rintro e v3_1 ⟨rfl, g⟩
 replace Ym := Ym.kep g
 replace Yn := Yn.kep g
 refine hK.out _ _ (by (try dsimp only); obtain ⟨Za, Zb, _, _, gg⟩ := id hH; exact ⟨Za.kep g, Zb.kep g, ⟨_, by rfl, Ym⟩, ⟨_, by rfl, Yn⟩, kep_next gg g⟩) (fun hH2 => ?_)
 clear hK K hH; have hH := hH2; clear hH2
 try simp only [Act.put, List.setIfInBounds_toArray, List.set_cons_zero, List.set_cons_succ]
 refine sC 3 (fun K hK => ?_)
 go_simp
 (with_reducible refine (C2.out _).mono ?_); rintro e v3_3 ⟨rfl, g⟩
 replace Ym := Ym.kep g
 replace Yn := Yn.kep g
 refine hK.out _ _ (by (try dsimp only); obtain ⟨Za, Zb, _, _, gg⟩ := id hH; exact ⟨Za.kep g, Zb.kep g, ⟨_, by rfl, Ym⟩, ⟨_, by rfl, Yn⟩, kep_next gg g⟩) (fun hH2 => ?_)
 clear hK K hH; have hH := hH2; clear hH2
 try simp only [Act.put, List.setIfInBounds_toArray, List.set_cons_zero, List.set_cons_succ]
 refine sC 4 (fun K hK => ?_)
 obtain ⟨Za, Zb, _, _, gg⟩ := id hH
 have sm0 := Ym.i (i := 0) rfl
 have sm1 := Ym.i (i := 1) rfl
 have sm2 := Ym.i (i := 2) rfl
 have sm3 := Ym.i (i := 3) rfl
 have sm4 := Ym.i (i := 4) rfl
 have sm5 := Ym.i (i := 5) rfl
 have sm6 := Ym.i (i := 6) rfl
 have sm7 := Ym.i (i := 7) rfl
 have sm8 := Ym.i (i := 8) rfl
 have sm9 := Ym.i (i := 9) rfl
 have sm10 := Ym.i (i := 10) rfl
 have sm11 := Ym.i (i := 11) rfl
 have sm12 := Ym.i (i := 12) rfl
 have sm13 := Ym.i (i := 13) rfl
 have sfm0 := Ym.frz 0
 have sfm1 := Ym.frz 1
 have sfm2 := Ym.frz 2
 have sfm3 := Ym.frz 3
 have sfm4 := Ym.frz 4
 have sfm5 := Ym.frz 5
 have sfm6 := Ym.frz 6
 have sfm7 := Ym.frz 7
 have sfm8 := Ym.frz 8
 have sfm9 := Ym.frz 9
 have sfm10 := Ym.frz 10
 have sfm11 := Ym.frz 11
 have sfm12 := Ym.frz 12
 have sfm13 := Ym.frz 13
 have szm := Ym.lt
 have zq := gg.size
 have ka := Za.lt
 have kb := Zb.lt
 have km := Ym.lt
 have kn := Yn.lt
 go_simp
 clear sm0 sm1 sm2 sm3 sm4 sm5 sm6 sm7 sm8 sm9 sm10 sm11 sm12 sm13 sfm0 sfm1 sfm2 sfm3 sfm4 sfm5 sfm6 sfm7 sfm8 sfm9 sfm10 sfm11 sfm12 sfm13 szm
 replace Ym := Ym.set [.int .u32 x.k, .int .i32 x.r, .int .i32 x.ax, .int .i32 x.ay, .int .i32 x.m, .int .i32 x.o, .int .i32 x.px, .int .i32 x.py, .int .i32 x.vx, .int .i32 x.vy, .int .i32 a, .int .i32 b, .int .i32 c, .int .i32 d] (by simp)
 replace Yn := Yn.far (b := w.heap.size + 1 + 1) (by first | (simp; done) | (simp; omega)) [.int .u32 x.k, .int .i32 x.r, .int .i32 x.ax, .int .i32 x.ay, .int .i32 x.m, .int .i32 x.o, .int .i32 x.px, .int .i32 x.py, .int .i32 x.vx, .int .i32 x.vy, .int .i32 a, .int .i32 b, .int .i32 c, .int .i32 d]
 simp only [setAll, Nat.zero_add, Nat.reduceAdd] at Ym Yn
 refine hK.out _ _ (by (try dsimp only); exact ⟨by simpa only [setAll, Nat.zero_add, Nat.reduceAdd] using Za.far (b := w.heap.size + 1 + 1) (by first | (simp; done) | (simp; omega)) [.int .u32 x.k, .int .i32 x.r, .int .i32 x.ax, .int .i32 x.ay, .int .i32 x.m, .int .i32 x.o, .int .i32 x.px, .int .i32 x.py, .int .i32 x.vx, .int .i32 x.vy, .int .i32 a, .int .i32 b, .int .i32 c, .int .i32 d], by simpa only [setAll, Nat.zero_add, Nat.reduceAdd] using Zb.far (b := w.heap.size + 1 + 1) (by first | (simp; done) | (simp; omega)) [.int .u32 x.k, .int .i32 x.r, .int .i32 x.ax, .int .i32 x.ay, .int .i32 x.m, .int .i32 x.o, .int .i32 x.px, .int .i32 x.py, .int .i32 x.vx, .int .i32 x.vy, .int .i32 a, .int .i32 b, .int .i32 c, .int .i32 d], ⟨_, by rfl, Ym⟩, ⟨_, by rfl, Yn⟩, by simpa only [setAll, Nat.zero_add, Nat.reduceAdd] using kep_setAll (by first | omega | (simp; omega)) [.int .u32 x.k, .int .i32 x.r, .int .i32 x.ax, .int .i32 x.ay, .int .i32 x.m, .int .i32 x.o, .int .i32 x.px, .int .i32 x.py, .int .i32 x.vx, .int .i32 x.vy, .int .i32 a, .int .i32 b, .int .i32 c, .int .i32 d] 0 gg⟩) (fun hH2 => ?_)
 clear zq ka kb km kn Za Zb gg
 clear hK K hH; have hH := hH2; clear hH2
 revert Ym Yn hH; generalize World.setCell _ _ _ = V3_4; intro Ym Yn hH
 try simp only [Act.put, List.setIfInBounds_toArray, List.set_cons_zero, List.set_cons_succ]
 refine sC 5 (fun K hK => ?_)
 obtain ⟨Za, Zb, _, _, gg⟩ := id hH
 have sn0 := Yn.i (i := 0) rfl
 have sn1 := Yn.i (i := 1) rfl
 have sn2 := Yn.i (i := 2) rfl
 have sn3 := Yn.i (i := 3) rfl
 have sn4 := Yn.i (i := 4) rfl
 have sn5 := Yn.i (i := 5) rfl
 have sn6 := Yn.i (i := 6) rfl
 have sn7 := Yn.i (i := 7) rfl
 have sn8 := Yn.i (i := 8) rfl
 have sn9 := Yn.i (i := 9) rfl
 have sn10 := Yn.i (i := 10) rfl
 have sn11 := Yn.i (i := 11) rfl
 have sn12 := Yn.i (i := 12) rfl
 have sn13 := Yn.i (i := 13) rfl
 have sfn0 := Yn.frz 0
 have sfn1 := Yn.frz 1
 have sfn2 := Yn.frz 2
 have sfn3 := Yn.frz 3
 have sfn4 := Yn.frz 4
 have sfn5 := Yn.frz 5
 have sfn6 := Yn.frz 6
 have sfn7 := Yn.frz 7
 have sfn8 := Yn.frz 8
 have sfn9 := Yn.frz 9
 have sfn10 := Yn.frz 10
 have sfn11 := Yn.frz 11
 have sfn12 := Yn.frz 12
 have sfn13 := Yn.frz 13
 have szn := Yn.lt
 have zq := gg.size
 have ka := Za.lt
 have kb := Zb.lt
 have km := Ym.lt
 have kn := Yn.lt
 go_simp
 clear sn0 sn1 sn2 sn3 sn4 sn5 sn6 sn7 sn8 sn9 sn10 sn11 sn12 sn13 sfn0 sfn1 sfn2 sfn3 sfn4 sfn5 sfn6 sfn7 sfn8 sfn9 sfn10 sfn11 sfn12 sfn13 szn
 replace Ym := Ym.far (b := w.heap.size + 1 + 1 + 1) (by first | (simp; done) | (simp; omega)) [.int .u32 y.k, .int .i32 y.r, .int .i32 y.ax, .int .i32 y.ay, .int .i32 y.m, .int .i32 y.o, .int .i32 y.px, .int .i32 y.py, .int .i32 y.vx, .int .i32 y.vy, .int .i32 p, .int .i32 q, .int .i32 r, .int .i32 s]
 replace Yn := Yn.set [.int .u32 y.k, .int .i32 y.r, .int .i32 y.ax, .int .i32 y.ay, .int .i32 y.m, .int .i32 y.o, .int .i32 y.px, .int .i32 y.py, .int .i32 y.vx, .int .i32 y.vy, .int .i32 p, .int .i32 q, .int .i32 r, .int .i32 s] (by simp)
 simp only [setAll, Nat.zero_add, Nat.reduceAdd] at Ym Yn
 refine hK.out _ _ (by (try dsimp only); exact ⟨by simpa only [setAll, Nat.zero_add, Nat.reduceAdd] using Za.far (b := w.heap.size + 1 + 1 + 1) (by first | (simp; done) | (simp; omega)) [.int .u32 y.k, .int .i32 y.r, .int .i32 y.ax, .int .i32 y.ay, .int .i32 y.m, .int .i32 y.o, .int .i32 y.px, .int .i32 y.py, .int .i32 y.vx, .int .i32 y.vy, .int .i32 p, .int .i32 q, .int .i32 r, .int .i32 s], by simpa only [setAll, Nat.zero_add, Nat.reduceAdd] using Zb.far (b := w.heap.size + 1 + 1 + 1) (by first | (simp; done) | (simp; omega)) [.int .u32 y.k, .int .i32 y.r, .int .i32 y.ax, .int .i32 y.ay, .int .i32 y.m, .int .i32 y.o, .int .i32 y.px, .int .i32 y.py, .int .i32 y.vx, .int .i32 y.vy, .int .i32 p, .int .i32 q, .int .i32 r, .int .i32 s], ⟨_, by rfl, Ym⟩, ⟨_, by rfl, Yn⟩, by simpa only [setAll, Nat.zero_add, Nat.reduceAdd] using kep_setAll (by first | omega | (simp; omega)) [.int .u32 y.k, .int .i32 y.r, .int .i32 y.ax, .int .i32 y.ay, .int .i32 y.m, .int .i32 y.o, .int .i32 y.px, .int .i32 y.py, .int .i32 y.vx, .int .i32 y.vy, .int .i32 p, .int .i32 q, .int .i32 r, .int .i32 s] 0 gg⟩) (fun hH2 => ?_)
 clear zq ka kb km kn Za Zb gg
 clear hK K hH; have hH := hH2; clear hH2
 revert Ym Yn hH; generalize World.setCell _ _ _ = V3_5; intro Ym Yn hH
 try simp only [Act.put, List.setIfInBounds_toArray, List.set_cons_zero, List.set_cons_succ]
 refine sE ?_
 obtain ⟨Za, Zb, -, -, gg⟩ := hH
 have Zm := Ym; clear Ym
 have Zn := Yn; clear Yn
 go_wp2_with fail
 have m0 := Zm.i (i := 0) rfl
 have m1 := Zm.i (i := 1) rfl
 have m2 := Zm.i (i := 2) rfl
 have m3 := Zm.i (i := 3) rfl
 have m4 := Zm.i (i := 4) rfl
 have m5 := Zm.i (i := 5) rfl
 have m6 := Zm.i (i := 6) rfl
 have m7 := Zm.i (i := 7) rfl
 have m8 := Zm.i (i := 8) rfl
 have m9 := Zm.i (i := 9) rfl
 have m10 := Zm.i (i := 10) rfl
 have m11 := Zm.i (i := 11) rfl
 have m12 := Zm.i (i := 12) rfl
 have m13 := Zm.i (i := 13) rfl
 have n0 := Zn.i (i := 0) rfl
 have n1 := Zn.i (i := 1) rfl
 have n2 := Zn.i (i := 2) rfl
 have n3 := Zn.i (i := 3) rfl
 have n4 := Zn.i (i := 4) rfl
 have n5 := Zn.i (i := 5) rfl
 have n6 := Zn.i (i := 6) rfl
 have n7 := Zn.i (i := 7) rfl
 have n8 := Zn.i (i := 8) rfl
 have n9 := Zn.i (i := 9) rfl
 have n10 := Zn.i (i := 10) rfl
 have n11 := Zn.i (i := 11) rfl
 have n12 := Zn.i (i := 12) rfl
 have n13 := Zn.i (i := 13) rfl
 exact bodyPost_ret (v := .tuple #[.agg #[.int .u32 x.k, .int .i32 x.r, .int .i32 x.ax, .int .i32 x.ay, .int .i32 x.m, .int .i32 x.o, .int .i32 x.px, .int .i32 x.py, .int .i32 x.vx, .int .i32 x.vy, .int .i32 a, .int .i32 b, .int .i32 c, .int .i32 d], .agg #[.int .u32 y.k, .int .i32 y.r, .int .i32 y.ax, .int .i32 y.ay, .int .i32 y.m, .int .i32 y.o, .int .i32 y.px, .int .i32 y.py, .int .i32 y.vx, .int .i32 y.vy, .int .i32 p, .int .i32 q, .int .i32 r, .int .i32 s]]) (by simp [results, Tryz.results95, go_sem, m0, m1, m2, m3, m4, m5, m6, m7, m8, m9, m10, m11, m12, m13, n0, n1, n2, n3, n4, n5, n6, n7, n8, n9, n10, n11, n12, n13]) rfl ⟨rfl, gg⟩
theorem kod {x y : Bd} {a b c d p q r s : Int} (C : KSh (lowB x y) a b c d) (D : KSh (higB x y) p q r s) : KOd x y (lowB x y) (higB x y) a b c d p q r s := by
 by_cases hc : y.k < x.k
 ·have e : lowB x y = y ∧ higB x y = x := by unfold lowB higB; rw [if_pos hc, if_pos hc]; exact ⟨rfl, rfl⟩
  rw [e.1] at C ⊢
  rw [e.2] at D ⊢
  exact kod1 hc C D
 ·have e : lowB x y = x ∧ higB x y = y := by unfold lowB higB; rw [if_neg hc, if_neg hc]; exact ⟨rfl, rfl⟩
  rw [e.1] at C ⊢
  rw [e.2] at D ⊢
  exact kod0 hc C D
abbrev KDi (l h : Bd) (a b c d p q r s : Int) (dx dy : Int) : Prop := ∀ w, Calls Tryz.prog 96 #[.agg #[.int .u32 l.k, .int .i32 l.r, .int .i32 l.ax, .int .i32 l.ay, .int .i32 l.m, .int .i32 l.o, .int .i32 l.px, .int .i32 l.py, .int .i32 l.vx, .int .i32 l.vy, .int .i32 a, .int .i32 b, .int .i32 c, .int .i32 d], .agg #[.int .u32 h.k, .int .i32 h.r, .int .i32 h.ax, .int .i32 h.ay, .int .i32 h.m, .int .i32 h.o, .int .i32 h.px, .int .i32 h.py, .int .i32 h.vx, .int .i32 h.vy, .int .i32 p, .int .i32 q, .int .i32 r, .int .i32 s]] w fun e w' => e = .returned (.tuple #[.int .i64 dx, .int .i64 dy]) ∧ Kep w.heap.size w w'
abbrev KRa (l h : Bd) (a b c d p q r s : Int) (t : Int) : Prop := ∀ w, Calls Tryz.prog 97 #[.agg #[.int .u32 l.k, .int .i32 l.r, .int .i32 l.ax, .int .i32 l.ay, .int .i32 l.m, .int .i32 l.o, .int .i32 l.px, .int .i32 l.py, .int .i32 l.vx, .int .i32 l.vy, .int .i32 a, .int .i32 b, .int .i32 c, .int .i32 d], .agg #[.int .u32 h.k, .int .i32 h.r, .int .i32 h.ax, .int .i32 h.ay, .int .i32 h.m, .int .i32 h.o, .int .i32 h.px, .int .i32 h.py, .int .i32 h.vx, .int .i32 h.vy, .int .i32 p, .int .i32 q, .int .i32 r, .int .i32 s]] w fun e w' => e = .returned (.int .i64 t) ∧ Kep w.heap.size w w'
abbrev KCl (dx dy t : Int) (z : Bool) : Prop := ∀ w, Calls Tryz.prog 98 #[.int .i64 dx, .int .i64 dy, .int .i64 t] w fun e w' => e = .returned (.bool z) ∧ w = w'
theorem kdi {l h : Bd} {a b c d p q r s : Int} {A B C D dx dy : Int} (X : SCh a b c d p q r s A B C D) (Y : KDf A B C D dx dy) : KDi l h a b c d p q r s dx dy := fun w => by
 have C1 := Lib.hid X
 have C2 := Lib.hid Y
 clear X Y
 go_enter Tryz.func96, Tryz.ntmps96
 go_wp2_with (first
  | ((with_reducible refine (C1.out _).mono ?_); rintro e w1 ⟨rfl, g1⟩
     have gg := kep_next (kep_more (kep_more (Kep.refl _ _) _) _) g1)
  | ((with_reducible refine (C2.out _).mono ?_); rintro e w2 ⟨rfl, g2⟩
     replace gg := kep_next gg g2))
 go_ret2
 exact ⟨rfl, gg⟩
theorem kra {l h : Bd} {a b c d p q r s : Int} {t : Int} (h1 : 4096 ≤ l.r ∧ l.r ≤ 4194304) (h2 : 4096 ≤ h.r ∧ h.r ≤ 4194304) (ht : l.r + h.r = t) : KRa l h a b c d p q r s t := fun w => by
 have f1 : IntKind.i64.wrap l.r = l.r := by rw [IntKind.wrap_i64]; omega
 have f2 : IntKind.i64.wrap h.r = h.r := by rw [IntKind.wrap_i64]; omega
 have f3 : IntKind.i64.wrap (l.r + h.r) = t := by rw [IntKind.wrap_i64]; omega
 clear ht
 go_enter Tryz.func97, Tryz.ntmps97
 go_wp2_with fail
 go_ret
 exact ⟨rfl, (kep_more (kep_more (Kep.refl _ _) _) _)⟩
theorem kcl {dx dy t q : Int} {z : Bool} (X : Lsq2 dx dy t) (h1 : 0 ≤ q ∧ q ≤ 8388608) (hz : decide (t < q * q) = z) : KCl dx dy q z := fun w => by
 have C1 := Lib.hid X
 clear X
 have b1 := Int.mul_le_mul_of_nonneg_left h1.2 h1.1
 have b2 := Int.mul_nonneg h1.1 h1.1
 obtain ⟨k, hk⟩ : ∃ k, k = q * q := ⟨_, rfl⟩
 rw [← hk] at hz b1 b2
 have f1 : IntKind.i64.wrap (q * q) = k := by rw [← hk, IntKind.wrap_i64]; omega
 have f2 : IntKind.u64.wrap k = k := by rw [IntKind.wrap_u64]; omega
 clear hk b1 b2 h1
 go_enter Tryz.func98, Tryz.ntmps98
 go_wp2_with (first
  | ((with_reducible refine (C1.out _).mono ?_); rintro e w' ⟨rfl, rfl⟩))
 go_ret
 exact ⟨rfl, rfl⟩
abbrev KUn (dx dy x y : Int) : Prop := ∀ w, Calls Tryz.prog 99 #[.int .i64 dx, .int .i64 dy] w fun e w' => e = .returned (.agg #[.int .i32 x, .int .i32 y]) ∧ Kep w.heap.size w w'
abbrev KLn (dx dy n : Int) : Prop := ∀ w, Calls Tryz.prog 100 #[.int .i64 dx, .int .i64 dy] w fun e w' => e = .returned (.int .i64 n) ∧ Kep w.heap.size w w'
theorem kun {dx dy n : Int} (h1 : InD dx) (h2 : InD dy) (hn : IsRoot n (lsq dx dy)) : KUn dx dy (ux dx n) (uy dy n) := fun w => kep_calls (uni2 h1 h2 hn rfl rfl w)
theorem kln {dx dy n : Int} (h1 : InD dx) (h2 : InD dy) (hn : IsRoot n (lsq dx dy)) : KLn dx dy n := fun w => (len2 h1 h2 hn w).mono fun _ _ h => ⟨h.1, by rw [← h.2]; exact Kep.refl _ _⟩
theorem kof1 {x y l h : Bd} {a b c d p q r s dx dy t : Int} (X1 : KOd x y l h a b c d p q r s) (X2 : KDi l h a b c d p q r s dx dy) (X3 : KRa l h a b c d p q r s t) (X4 : KCl dx dy t true) {u v n D : Int} (X5 : KUn dx dy u v) (X6 : KLn dx dy n) (h1 : 0 ≤ t ∧ t ≤ 8388608) (h2 : 0 ≤ n ∧ n ≤ t) (hD : t - n = D) : QOf x y ⟨l.k, h.k, u, v, D⟩ true := fun w => by
 have C1 := Lib.hid X1
 have C2 := Lib.hid X2
 have C3 := Lib.hid X3
 have C4 := Lib.hid X4
 have C5 := Lib.hid X5
 have C6 := Lib.hid X6
 have f1 : IntKind.i64.wrap (t - n) = D := by rw [IntKind.wrap_i64]; omega
 have f2 : IntKind.i32.wrap D = D := by rw [IntKind.wrap_i32]; omega
 clear X5 X6 h1 h2 hD
 clear X1 X2 X3 X4
 go_enter Tryz.func76, Tryz.ntmps76
 go_upto_region 2 with (first
  | ((with_reducible refine (C1.out _).mono ?_); rintro e w1 ⟨rfl, g1⟩
     have gg := kep_next (kep_more (kep_more (kep_more (Kep.refl _ _) _) _) _) g1
     have Zr : ZC w1 (w.heap.size + 1 + 1) [.int .u32 0, .int .u32 0, .int .i32 0, .int .i32 0, .int .i32 0] := ZC.kep (zc_new' _ _ _ (by first | rfl | simp)) g1))
 have q1 : w.heap.size + 1 + 1 < w1.heap.size := Zr.lt
 generalize hW : World.alloc (World.alloc w1 _) _ = W2
 replace Zr : ZC W2 (w.heap.size + 1 + 1) [.int .u32 0, .int .u32 0, .int .i32 0, .int .i32 0, .int .i32 0] := by rw [← hW]; exact (ZC.more (ZC.more Zr _) _)
 have Zl : ZC W2 (w1.heap.size) [.int .u32 l.k, .int .i32 l.r, .int .i32 l.ax, .int .i32 l.ay, .int .i32 l.m, .int .i32 l.o, .int .i32 l.px, .int .i32 l.py, .int .i32 l.vx, .int .i32 l.vy, .int .i32 a, .int .i32 b, .int .i32 c, .int .i32 d] := by rw [← hW]; exact (ZC.more (zc_new' _ _ _ (by first | rfl | simp)) _)
 have Zh : ZC W2 (w1.heap.size + 1) [.int .u32 h.k, .int .i32 h.r, .int .i32 h.ax, .int .i32 h.ay, .int .i32 h.m, .int .i32 h.o, .int .i32 h.px, .int .i32 h.py, .int .i32 h.vx, .int .i32 h.vy, .int .i32 p, .int .i32 q, .int .i32 r, .int .i32 s] := by rw [← hW]; exact (zc_new' _ _ _ (by first | rfl | simp))
 replace gg : Kep w.heap.size w W2 := by rw [← hW]; exact (kep_more (kep_more gg _) _)
 clear hW
 have l0 := Zl.i (i := 0) rfl
 have l1 := Zl.i (i := 1) rfl
 have l2 := Zl.i (i := 2) rfl
 have l3 := Zl.i (i := 3) rfl
 have l4 := Zl.i (i := 4) rfl
 have l5 := Zl.i (i := 5) rfl
 have l6 := Zl.i (i := 6) rfl
 have l7 := Zl.i (i := 7) rfl
 have l8 := Zl.i (i := 8) rfl
 have l9 := Zl.i (i := 9) rfl
 have l10 := Zl.i (i := 10) rfl
 have l11 := Zl.i (i := 11) rfl
 have l12 := Zl.i (i := 12) rfl
 have l13 := Zl.i (i := 13) rfl
 have zl := Zl.lt
 have h0 := Zh.i (i := 0) rfl
 have h1 := Zh.i (i := 1) rfl
 have h2 := Zh.i (i := 2) rfl
 have h3 := Zh.i (i := 3) rfl
 have h4 := Zh.i (i := 4) rfl
 have h5 := Zh.i (i := 5) rfl
 have h6 := Zh.i (i := 6) rfl
 have h7 := Zh.i (i := 7) rfl
 have h8 := Zh.i (i := 8) rfl
 have h9 := Zh.i (i := 9) rfl
 have h10 := Zh.i (i := 10) rfl
 have h11 := Zh.i (i := 11) rfl
 have h12 := Zh.i (i := 12) rfl
 have h13 := Zh.i (i := 13) rfl
 have zh := Zh.lt
 have zr := Zr.lt
 go_upto_region 6 with (first
  | ((with_reducible refine (C2.out _).mono ?_); rintro e w3 ⟨rfl, g3⟩
     replace Zr := Zr.kep g3
     replace Zl := Zl.kep g3
     replace Zh := Zh.kep g3
     replace gg := kep_next gg g3
     have l0 := Zl.i (i := 0) rfl
     have l1 := Zl.i (i := 1) rfl
     have l2 := Zl.i (i := 2) rfl
     have l3 := Zl.i (i := 3) rfl
     have l4 := Zl.i (i := 4) rfl
     have l5 := Zl.i (i := 5) rfl
     have l6 := Zl.i (i := 6) rfl
     have l7 := Zl.i (i := 7) rfl
     have l8 := Zl.i (i := 8) rfl
     have l9 := Zl.i (i := 9) rfl
     have l10 := Zl.i (i := 10) rfl
     have l11 := Zl.i (i := 11) rfl
     have l12 := Zl.i (i := 12) rfl
     have l13 := Zl.i (i := 13) rfl
     have zl := Zl.lt
     have h0 := Zh.i (i := 0) rfl
     have h1 := Zh.i (i := 1) rfl
     have h2 := Zh.i (i := 2) rfl
     have h3 := Zh.i (i := 3) rfl
     have h4 := Zh.i (i := 4) rfl
     have h5 := Zh.i (i := 5) rfl
     have h6 := Zh.i (i := 6) rfl
     have h7 := Zh.i (i := 7) rfl
     have h8 := Zh.i (i := 8) rfl
     have h9 := Zh.i (i := 9) rfl
     have h10 := Zh.i (i := 10) rfl
     have h11 := Zh.i (i := 11) rfl
     have h12 := Zh.i (i := 12) rfl
     have h13 := Zh.i (i := 13) rfl
     have zh := Zh.lt)
  | ((with_reducible refine (C3.out _).mono ?_); rintro e w4 ⟨rfl, g4⟩
     replace Zr := Zr.kep g4
     replace Zl := Zl.kep g4
     replace Zh := Zh.kep g4
     replace gg := kep_next gg g4)
  | ((with_reducible refine (C4.out _).mono ?_); rintro e w' ⟨rfl, rfl⟩))
 refine wp_region_noPanic ?_
 refine wp_region_held_drew (S := (fun w' => (∃ l : List Value, l.length = 5 ∧ ZC w' (w.heap.size + 1 + 1) l) ∧ ZC w' (w1.heap.size) [.int .u32 l.k, .int .i32 l.r, .int .i32 l.ax, .int .i32 l.ay, .int .i32 l.m, .int .i32 l.o, .int .i32 l.px, .int .i32 l.py, .int .i32 l.vx, .int .i32 l.vy, .int .i32 a, .int .i32 b, .int .i32 c, .int .i32 d] ∧ ZC w' (w1.heap.size + 1) [.int .u32 h.k, .int .i32 h.r, .int .i32 h.ax, .int .i32 h.ay, .int .i32 h.m, .int .i32 h.o, .int .i32 h.px, .int .i32 h.py, .int .i32 h.vx, .int .i32 h.vy, .int .i32 p, .int .i32 q, .int .i32 r, .int .i32 s] ∧ Kep w.heap.size w w')) (by kernel_rfl) (⟨⟨_, by rfl, Zr.drew⟩, Zl.drew, Zh.drew, kep_drew gg⟩) (fun hH => ?_)
 have Yr := Zr.drew
 clear Zr Zl Zh gg
 refine sT 0 hH ?_
 refine sT 1 hH ?_
 refine rtk 2 (oi := ⟨some 34, .load 36 (.tmp 33), _, _, _, none⟩) (v := ?_) rfl ?_ hH ?_
 rotate_left
 ·(intro wq hSw; (try dsimp only at hSw); obtain ⟨-, Zl, Zh, -⟩ := hSw; replace Zl := za_of Zl; replace Zh := za_of Zh; go_simp; (try with_reducible rfl))
 refine sN 3 hH ?_
 refine sT 4 hH ?_
 refine rtk 5 (oi := ⟨some 37, .load 36 (.tmp 36), _, _, _, none⟩) (v := ?_) rfl ?_ hH ?_
 rotate_left
 ·(intro wq hSw; (try dsimp only at hSw); obtain ⟨-, Zl, Zh, -⟩ := hSw; replace Zl := za_of Zl; replace Zh := za_of Zh; go_simp; (try with_reducible rfl))
 refine sT 6 hH ?_
 refine sN 7 hH ?_
 refine sT 8 hH ?_
 refine sT 10 hH ?_
 refine sT 11 hH ?_
 refine sN 12 hH ?_
 refine sC 9 (fun K hK => ?_)
 go_simp
 (with_reducible refine (C5.out _).mono ?_); rintro e v6_9 ⟨rfl, g⟩
 replace Yr := Yr.kep g
 refine hK.out _ _ (by (try dsimp only); obtain ⟨_, Zl, Zh, gg⟩ := id hH; exact ⟨⟨_, by rfl, Yr⟩, Zl.kep g, Zh.kep g, kep_next gg g⟩) (fun hH2 => ?_)
 clear hK K hH; have hH := hH2; clear hH2
 try simp only [Act.put, List.setIfInBounds_toArray, List.set_cons_zero, List.set_cons_succ]
 refine sC 13 (fun K hK => ?_)
 go_simp
 (with_reducible refine (C6.out _).mono ?_); rintro e v6_13 ⟨rfl, g⟩
 replace Yr := Yr.kep g
 refine hK.out _ _ (by (try dsimp only); obtain ⟨_, Zl, Zh, gg⟩ := id hH; exact ⟨⟨_, by rfl, Yr⟩, Zl.kep g, Zh.kep g, kep_next gg g⟩) (fun hH2 => ?_)
 clear hK K hH; have hH := hH2; clear hH2
 refine sT 14 hH ?_
 refine sT 15 hH ?_
 refine sN 16 hH ?_
 refine sC 17 (fun K hK => ?_)
 obtain ⟨_, Zl, Zh, gg⟩ := id hH
 have sr0 := Yr.i (i := 0) rfl
 have sr1 := Yr.i (i := 1) rfl
 have sr2 := Yr.i (i := 2) rfl
 have sr3 := Yr.i (i := 3) rfl
 have sr4 := Yr.i (i := 4) rfl
 have sfr0 := Yr.frz 0
 have sfr1 := Yr.frz 1
 have sfr2 := Yr.frz 2
 have sfr3 := Yr.frz 3
 have sfr4 := Yr.frz 4
 have szr := Yr.lt
 have zq := gg.size
 have kr := Yr.lt
 have kl := Zl.lt
 have kh := Zh.lt
 go_simp
 clear sr0 sr1 sr2 sr3 sr4 sfr0 sfr1 sfr2 sfr3 sfr4 szr
 replace Yr := Yr.set [.int .u32 l.k, .int .u32 h.k, .int .i32 u, .int .i32 v, .int .i32 D] (by simp)
 simp only [setAll, Nat.zero_add, Nat.reduceAdd] at Yr
 refine hK.out _ _ (by (try dsimp only); exact ⟨⟨_, by rfl, Yr⟩, by simpa only [setAll, Nat.zero_add, Nat.reduceAdd] using Zl.far (b := w.heap.size + 1 + 1) (by first | (simp; done) | (simp; omega)) [.int .u32 l.k, .int .u32 h.k, .int .i32 u, .int .i32 v, .int .i32 D], by simpa only [setAll, Nat.zero_add, Nat.reduceAdd] using Zh.far (b := w.heap.size + 1 + 1) (by first | (simp; done) | (simp; omega)) [.int .u32 l.k, .int .u32 h.k, .int .i32 u, .int .i32 v, .int .i32 D], by simpa only [setAll, Nat.zero_add, Nat.reduceAdd] using kep_setAll (by first | omega | (simp; omega)) [.int .u32 l.k, .int .u32 h.k, .int .i32 u, .int .i32 v, .int .i32 D] 0 gg⟩) (fun hH2 => ?_)
 clear zq kr kl kh Zl Zh gg
 clear hK K hH; have hH := hH2; clear hH2
 revert Yr hH; generalize World.setCell _ _ _ = V6_17; intro Yr hH
 refine sN 18 hH ?_
 refine sE ?_
 obtain ⟨-, Zl, Zh, gg⟩ := hH
 have Zr := Yr; clear Yr
 go_wp2_with fail
 have r0 := Zr.i (i := 0) rfl
 have r1 := Zr.i (i := 1) rfl
 have r2 := Zr.i (i := 2) rfl
 have r3 := Zr.i (i := 3) rfl
 have r4 := Zr.i (i := 4) rfl
 exact bodyPost_ret (v := .tuple #[.agg #[.int .u32 l.k, .int .u32 h.k, .int .i32 u, .int .i32 v, .int .i32 D], .bool true]) (by simp [results, Tryz.results76, go_sem, r0, r1, r2, r3, r4]) rfl ⟨rfl, gg⟩
theorem kof0 {x y l h : Bd} {a b c d p q r s dx dy t : Int} (X1 : KOd x y l h a b c d p q r s) (X2 : KDi l h a b c d p q r s dx dy) (X3 : KRa l h a b c d p q r s t) (X4 : KCl dx dy t false) : QOf x y ⟨0, 0, 0, 0, 0⟩ false := fun w => by
 have C1 := Lib.hid X1
 have C2 := Lib.hid X2
 have C3 := Lib.hid X3
 have C4 := Lib.hid X4
 clear X1 X2 X3 X4
 go_enter Tryz.func76, Tryz.ntmps76
 go_upto_region 2 with (first
  | ((with_reducible refine (C1.out _).mono ?_); rintro e w1 ⟨rfl, g1⟩
     have gg := kep_next (kep_more (kep_more (kep_more (Kep.refl _ _) _) _) _) g1
     have Zr : ZC w1 (w.heap.size + 1 + 1) [.int .u32 0, .int .u32 0, .int .i32 0, .int .i32 0, .int .i32 0] := ZC.kep (zc_new' _ _ _ (by first | rfl | simp)) g1))
 have q1 : w.heap.size + 1 + 1 < w1.heap.size := Zr.lt
 generalize hW : World.alloc (World.alloc w1 _) _ = W2
 replace Zr : ZC W2 (w.heap.size + 1 + 1) [.int .u32 0, .int .u32 0, .int .i32 0, .int .i32 0, .int .i32 0] := by rw [← hW]; exact (ZC.more (ZC.more Zr _) _)
 have Zl : ZC W2 (w1.heap.size) [.int .u32 l.k, .int .i32 l.r, .int .i32 l.ax, .int .i32 l.ay, .int .i32 l.m, .int .i32 l.o, .int .i32 l.px, .int .i32 l.py, .int .i32 l.vx, .int .i32 l.vy, .int .i32 a, .int .i32 b, .int .i32 c, .int .i32 d] := by rw [← hW]; exact (ZC.more (zc_new' _ _ _ (by first | rfl | simp)) _)
 have Zh : ZC W2 (w1.heap.size + 1) [.int .u32 h.k, .int .i32 h.r, .int .i32 h.ax, .int .i32 h.ay, .int .i32 h.m, .int .i32 h.o, .int .i32 h.px, .int .i32 h.py, .int .i32 h.vx, .int .i32 h.vy, .int .i32 p, .int .i32 q, .int .i32 r, .int .i32 s] := by rw [← hW]; exact (zc_new' _ _ _ (by first | rfl | simp))
 replace gg : Kep w.heap.size w W2 := by rw [← hW]; exact (kep_more (kep_more gg _) _)
 clear hW
 have l0 := Zl.i (i := 0) rfl
 have l1 := Zl.i (i := 1) rfl
 have l2 := Zl.i (i := 2) rfl
 have l3 := Zl.i (i := 3) rfl
 have l4 := Zl.i (i := 4) rfl
 have l5 := Zl.i (i := 5) rfl
 have l6 := Zl.i (i := 6) rfl
 have l7 := Zl.i (i := 7) rfl
 have l8 := Zl.i (i := 8) rfl
 have l9 := Zl.i (i := 9) rfl
 have l10 := Zl.i (i := 10) rfl
 have l11 := Zl.i (i := 11) rfl
 have l12 := Zl.i (i := 12) rfl
 have l13 := Zl.i (i := 13) rfl
 have zl := Zl.lt
 have h0 := Zh.i (i := 0) rfl
 have h1 := Zh.i (i := 1) rfl
 have h2 := Zh.i (i := 2) rfl
 have h3 := Zh.i (i := 3) rfl
 have h4 := Zh.i (i := 4) rfl
 have h5 := Zh.i (i := 5) rfl
 have h6 := Zh.i (i := 6) rfl
 have h7 := Zh.i (i := 7) rfl
 have h8 := Zh.i (i := 8) rfl
 have h9 := Zh.i (i := 9) rfl
 have h10 := Zh.i (i := 10) rfl
 have h11 := Zh.i (i := 11) rfl
 have h12 := Zh.i (i := 12) rfl
 have h13 := Zh.i (i := 13) rfl
 have zh := Zh.lt
 have zr := Zr.lt
 go_wp2_with (first
  | ((with_reducible refine (C2.out _).mono ?_); rintro e w3 ⟨rfl, g3⟩
     replace Zr := Zr.kep g3
     replace Zl := Zl.kep g3
     replace Zh := Zh.kep g3
     replace gg := kep_next gg g3
     have l0 := Zl.i (i := 0) rfl
     have l1 := Zl.i (i := 1) rfl
     have l2 := Zl.i (i := 2) rfl
     have l3 := Zl.i (i := 3) rfl
     have l4 := Zl.i (i := 4) rfl
     have l5 := Zl.i (i := 5) rfl
     have l6 := Zl.i (i := 6) rfl
     have l7 := Zl.i (i := 7) rfl
     have l8 := Zl.i (i := 8) rfl
     have l9 := Zl.i (i := 9) rfl
     have l10 := Zl.i (i := 10) rfl
     have l11 := Zl.i (i := 11) rfl
     have l12 := Zl.i (i := 12) rfl
     have l13 := Zl.i (i := 13) rfl
     have zl := Zl.lt
     have h0 := Zh.i (i := 0) rfl
     have h1 := Zh.i (i := 1) rfl
     have h2 := Zh.i (i := 2) rfl
     have h3 := Zh.i (i := 3) rfl
     have h4 := Zh.i (i := 4) rfl
     have h5 := Zh.i (i := 5) rfl
     have h6 := Zh.i (i := 6) rfl
     have h7 := Zh.i (i := 7) rfl
     have h8 := Zh.i (i := 8) rfl
     have h9 := Zh.i (i := 9) rfl
     have h10 := Zh.i (i := 10) rfl
     have h11 := Zh.i (i := 11) rfl
     have h12 := Zh.i (i := 12) rfl
     have h13 := Zh.i (i := 13) rfl
     have zh := Zh.lt)
  | ((with_reducible refine (C3.out _).mono ?_); rintro e w4 ⟨rfl, g4⟩
     replace Zr := Zr.kep g4
     replace Zl := Zl.kep g4
     replace Zh := Zh.kep g4
     replace gg := kep_next gg g4
     have r0 := Zr.i (i := 0) rfl
     have r1 := Zr.i (i := 1) rfl
     have r2 := Zr.i (i := 2) rfl
     have r3 := Zr.i (i := 3) rfl
     have r4 := Zr.i (i := 4) rfl
     have fr0 : w4.frozen? ⟨w.heap.size + 1 + 1, 0, none⟩ = false := Zr.frz 0
     have fr1 : w4.frozen? ⟨w.heap.size + 1 + 1, 1, none⟩ = false := Zr.frz 1
     have fr2 : w4.frozen? ⟨w.heap.size + 1 + 1, 2, none⟩ = false := Zr.frz 2
     have fr3 : w4.frozen? ⟨w.heap.size + 1 + 1, 3, none⟩ = false := Zr.frz 3
     have fr4 : w4.frozen? ⟨w.heap.size + 1 + 1, 4, none⟩ = false := Zr.frz 4
     have zr := Zr.lt)
  | ((with_reducible refine (C4.out _).mono ?_); rintro e w' ⟨rfl, rfl⟩))
 have hst := Zr.set [.int .u32 0, .int .u32 0, .int .i32 0, .int .i32 0, .int .i32 0] (by simp)
 simp only [setAll, Nat.zero_add, Nat.reduceAdd] at hst
 have hst0 := hst.i (i := 0) rfl
 have hst1 := hst.i (i := 1) rfl
 have hst2 := hst.i (i := 2) rfl
 have hst3 := hst.i (i := 3) rfl
 have hst4 := hst.i (i := 4) rfl
 exact bodyPost_ret (v := .tuple #[.agg #[.int .u32 0, .int .u32 0, .int .i32 0, .int .i32 0, .int .i32 0], .bool false]) (by simp [results, Tryz.results76, go_sem, hst0, hst1, hst2, hst3, hst4]) rfl ⟨rfl, by simpa only [setAll, Nat.zero_add, Nat.reduceAdd] using kep_setAll (by omega) [.int .u32 0, .int .u32 0, .int .i32 0, .int .i32 0, .int .i32 0] 0 gg⟩
theorem ksh_ok {x : Bd} (h : okC x) : KSh x (x.px - x.ax) (x.py - x.ay) (x.px + x.ax) (x.py + x.ay) := ksh (ken h)
theorem qod {x y : Bd} (hx : okC x) (hy : okC y) : KOd x y (lowB x y) (higB x y) ((lowB x y).px - (lowB x y).ax) ((lowB x y).py - (lowB x y).ay) ((lowB x y).px + (lowB x y).ax) ((lowB x y).py + (lowB x y).ay) ((higB x y).px - (higB x y).ax) ((higB x y).py - (higB x y).ay) ((higB x y).px + (higB x y).ax) ((higB x y).py + (higB x y).ay) := kod (x := x) (y := y) (ksh_ok (low_ok hx hy).1) (ksh_ok (low_ok hx hy).2)
theorem qdi {l h : Bd} (hl : okC l) (hh : okC h) : KDi l h (l.px - l.ax) (l.py - l.ay) (l.px + l.ax) (l.py + l.ay) (h.px - h.ax) (h.py - h.ay) (h.px + h.ax) (h.py + h.ay) (cdx l h) (cdy l h) := by
 have g := cc_good hl hh
 exact kdi (sch (x := cc l h) (cc_sg hl hh) rfl) (kdf g.a g.b (cin32 g.c) (cin32 g.d) rfl rfl)
theorem qra {l h : Bd} (hl : okC l) (hh : okC h) (a b c d p q r s : Int) : KRa l h a b c d p q r s (csm l h) := kra (okC_lim hl).1 (okC_lim hh).1 rfl
theorem qcl {l h : Bd} (hl : okC l) (hh : okC h) : KCl (cdx l h) (cdy l h) (csm l h) (tchB l h) := by
 have i := cc_ind hl hh
 have b := csm_bd hl hh
 exact kcl (lsq2 i.1 i.2 (cc_t hl hh).symm) ⟨by omega, b.2⟩ rfl
theorem qof {x y : Bd} (hx : okC x) (hy : okC y) : QOf x y (conV (lowB x y) (higB x y)) (tchB (lowB x y) (higB x y)) := by
 have k := low_ok hx hy
 have X1 := qod hx hy
 generalize lowB x y = l at *
 generalize higB x y = h at *
 obtain ⟨hl, hh⟩ := k
 have i := cc_ind hl hh
 have b := csm_bd hl hh
 have n := cln_bd hl hh
 have X4 := qcl hl hh
 cases c : tchB l h with
 | false =>
   rw [c] at X4
   have e : conV l h = ⟨0, 0, 0, 0, 0⟩ := by unfold conV; rw [c]; rfl
   rw [e]
   exact kof0 X1 (qdi hl hh) (qra hl hh _ _ _ _ _ _ _ _) X4
 | true =>
   rw [c] at X4
   have e : conV l h = conC l h := by unfold conV; rw [c]; rfl
   have q := (tch_iff hl hh).1 c
   rw [e]
   exact kof1 X1 (qdi hl hh) (qra hl hh _ _ _ _ _ _ _ _) X4 (kun i.1 i.2 (cln_is hl hh)) (kln i.1 i.2 (cln_is hl hh)) ⟨by omega, b.2⟩ ⟨n.1, by omega⟩ rfl
end Go.Proofs.YtaknmlohnifcdaaGreatDoor
