/-
  Package integrate: travel, gain, Move's closure, Push.
-/
import Derived.Test.YtlabeelbbkbkaaaIntOps1
import Derived.Deep.DeepCutAuto
import Derived.Deep.QuietTactic
import Derived.BigQuiet
namespace Go.Proofs.Ytlabeelbbkbkaaa
open Go.RowKit Go.Lib

abbrev KTr (n t : Int) : Prop := ∀ w, Calls Try.prog 29 #[.int .i32 n] w fun e w' => e = .returned (.int .i64 t) ∧ w = w'
abbrev KGn (j m t : Int) : Prop := ∀ w, Calls Try.prog 31 #[.int .i32 j, .int .i32 m] w fun e w' => e = .returned (.int .i64 t) ∧ w = w'
theorem ktr {n : Int} (h : IntKind.i64.wrap n = n) : KTr n (n / 64) := fun w => by
  go_enter Try.func29, Try.ntmps29
  go_wp2_with fail
  go_ret
  exact ⟨rfl, rfl⟩
theorem kgn {j m p : Int} (h1 : IntKind.i64.wrap j = j) (h2 : IntKind.i64.wrap m = m) (h3 : IntKind.i64.wrap (j * m) = p) : KGn j m (p / 65536) := fun w => by
  go_enter Try.func31, Try.ntmps31
  go_wp2_with fail
  go_ret
  exact ⟨rfl, rfl⟩
set_option maxRecDepth 100000 in
set_option maxHeartbeats 4000000 in
theorem ym1 {x : Bd} {s : Sh} {k n : Nat} {p q u v tx ty a b : Int} {c : Bool} {cb lb gs os cs : Nat} (hk : k < n) (h1 : IntKind.i64.wrap x.px = x.px) (h2 : IntKind.i64.wrap (x.px + s.1) = p) (h3 : IntKind.i64.wrap (p + u) = tx) (T1 : KTr x.vx u)
    (h4 : IntKind.i64.wrap x.py = x.py) (h5 : IntKind.i64.wrap (x.py + s.2) = q) (h6 : IntKind.i64.wrap (q + v) = ty) (T2 : KTr x.vy v) (X : KLm tx ty 1073741824 a b c) (z : Bool) (w : World) (c0 : w.cell? ⟨cb, 0, none⟩ = some (.bool z)) (f0 : w.frozen? ⟨cb, 0, none⟩ = false)
    (l0 : w.cell? ⟨lb, 0, none⟩ = some (.slice (some ⟨gs, os, none⟩) n cs)) (p0 : w.cell? ⟨gs, os + k * 2, none⟩ = some (.int .i64 s.1)) (p1 : w.cell? ⟨gs, os + k * 2 + 1, none⟩ = some (.int .i64 s.2)) :
    Calls Try.prog 28 #[.int .i64 (k : Int), .agg #[.int .u32 x.k, .int .i32 x.r, .int .i32 x.ax, .int .i32 x.ay, .int .i32 x.m, .int .i32 x.o, .int .i32 x.px, .int .i32 x.py, .int .i32 x.vx, .int .i32 x.vy], .pointer (some ⟨lb, 0, none⟩), .pointer (some ⟨cb, 0, none⟩)] w fun e w' => e = .returned (.agg #[.int .u32 (plB x a b).k, .int .i32 (plB x a b).r, .int .i32 (plB x a b).ax, .int .i32 (plB x a b).ay, .int .i32 (plB x a b).m, .int .i32 (plB x a b).o, .int .i32 (plB x a b).px, .int .i32 (plB x a b).py, .int .i32 (plB x a b).vx, .int .i32 (plB x a b).vy]) ∧ Flg w w' cb (z || c) := by
  have C1 := Lib.hid T1
  have C2 := Lib.hid T2
  have C3 := Lib.hid X
  have i0 : (0 : Int) ≤ (k : Int) := Int.natCast_nonneg _
  have i1 : (k : Int) < (n : Int) := by omega
  have y0 := World.block_lt_of_cell? _ _ c0
  have y1 := World.block_lt_of_cell? _ _ l0
  have y2 := World.block_lt_of_cell? _ _ p0
  dsimp only at y0 y1 y2
  have y3 : lb < w.heap.size + 1 := by omega
  have y4 : lb < w.heap.size + 1 + 1 := by omega
  have y5 : gs < w.heap.size + 1 := by omega
  have y6 : gs < w.heap.size + 1 + 1 := by omega
  clear X T1 T2
  go_enter Try.func28, Try.ntmps28
  go_upto_region 4 with fail
  generalize hW : World.alloc (World.alloc (World.alloc w _) _) _ = W1
  have Zb : ZC W1 (w.heap.size) [.int .u32 x.k, .int .i32 x.r, .int .i32 x.ax, .int .i32 x.ay, .int .i32 x.m, .int .i32 x.o, .int .i32 x.px, .int .i32 x.py, .int .i32 x.vx, .int .i32 x.vy] := by rw [← hW]; exact (ZC.more (ZC.more (zc_new' _ _ _ (by first | rfl | simp)) _) _)
  have Zr : ZC W1 (w.heap.size + 1) [.int .u32 0, .int .i32 0, .int .i32 0, .int .i32 0, .int .i32 0, .int .i32 0, .int .i32 0, .int .i32 0, .int .i32 0, .int .i32 0] := by rw [← hW]; exact (ZC.more (zc_new' _ _ _ (by first | rfl | simp)) _)
  have Zs : ZC W1 (w.heap.size + 1 + 1) [.int .i64 s.1, .int .i64 s.2] := by rw [← hW]; exact (zc_new' _ _ _ (by first | rfl | simp))
  have gg : Kep w.heap.size w W1 := by rw [← hW]; exact (kep_more (kep_more (kep_more (Kep.refl _ _) _) _) _)
  clear hW
  clear y1 y2 y3 y4 y5 y6 l0 p0 p1
  have x6 := Zb.i (i := 6) rfl
  have x7 := Zb.i (i := 7) rfl
  have x8 := Zb.i (i := 8) rfl
  have x9 := Zb.i (i := 9) rfl
  have s0 := Zs.i (i := 0) rfl
  have s1 := Zs.i (i := 1) rfl
  refine wp_region_noPanic ?_
  refine wp_region_held_drew (S := (fun w' => w'.cell? ⟨w.heap.size, 6, none⟩ = some (.int .i32 x.px) ∧ w'.cell? ⟨w.heap.size, 7, none⟩ = some (.int .i32 x.py) ∧ w'.cell? ⟨w.heap.size, 8, none⟩ = some (.int .i32 x.vx) ∧ w'.cell? ⟨w.heap.size, 9, none⟩ = some (.int .i32 x.vy) ∧ w'.cell? ⟨w.heap.size + 1 + 1, 0, none⟩ = some (.int .i64 s.1) ∧ w'.cell? ⟨w.heap.size + 1 + 1, 1, none⟩ = some (.int .i64 s.2) ∧ Kep w.heap.size w w')) (by kernel_rfl) (⟨by rw [World.cell?_drew]; exact x6, by rw [World.cell?_drew]; exact x7, by rw [World.cell?_drew]; exact x8, by rw [World.cell?_drew]; exact x9, by rw [World.cell?_drew]; exact s0, by rw [World.cell?_drew]; exact s1, kep_drew gg⟩) (fun hH => ?_)
  refine sT 0 hH ?_
  refine sT 1 hH ?_
  refine sT 2 hH ?_
  refine sN 3 hH ?_
  refine sT 4 hH ?_
  refine sT 5 hH ?_
  refine sT 6 hH ?_
  refine sN 7 hH ?_
  refine sT 8 hH ?_
  refine sN 9 hH ?_
  refine sC 10 (fun K hK => ?_)
  go_simp
  (with_reducible refine (C1.out _).mono ?_); rintro e v4_10 ⟨rfl, rfl⟩
  refine hK.out _ _ hH (fun hH2 => ?_)
  clear hK K hH; have hH := hH2; clear hH2
  refine sT 11 hH ?_
  refine sN 12 hH ?_
  refine sE ?_
  clear x6 x7 x8 x9 s0 s1 gg
  obtain ⟨x6, x7, x8, x9, s0, s1, gg⟩ := hH
  go_upto_region 5 with fail
  refine wp_region_noPanic ?_
  refine wp_region_held_drew (S := (fun w' => w'.cell? ⟨w.heap.size, 6, none⟩ = some (.int .i32 x.px) ∧ w'.cell? ⟨w.heap.size, 7, none⟩ = some (.int .i32 x.py) ∧ w'.cell? ⟨w.heap.size, 8, none⟩ = some (.int .i32 x.vx) ∧ w'.cell? ⟨w.heap.size, 9, none⟩ = some (.int .i32 x.vy) ∧ w'.cell? ⟨w.heap.size + 1 + 1, 0, none⟩ = some (.int .i64 s.1) ∧ w'.cell? ⟨w.heap.size + 1 + 1, 1, none⟩ = some (.int .i64 s.2) ∧ Kep w.heap.size w w')) (by kernel_rfl) (⟨by rw [World.cell?_drew]; exact x6, by rw [World.cell?_drew]; exact x7, by rw [World.cell?_drew]; exact x8, by rw [World.cell?_drew]; exact x9, by rw [World.cell?_drew]; exact s0, by rw [World.cell?_drew]; exact s1, kep_drew gg⟩) (fun hH => ?_)
  refine sT 0 hH ?_
  refine sT 1 hH ?_
  refine sT 2 hH ?_
  refine sN 3 hH ?_
  refine sT 4 hH ?_
  refine sT 5 hH ?_
  refine sT 6 hH ?_
  refine sN 7 hH ?_
  refine sT 8 hH ?_
  refine sN 9 hH ?_
  refine sC 10 (fun K hK => ?_)
  go_simp
  (with_reducible refine (C2.out _).mono ?_); rintro e v5_10 ⟨rfl, rfl⟩
  refine hK.out _ _ hH (fun hH2 => ?_)
  clear hK K hH; have hH := hH2; clear hH2
  refine sT 11 hH ?_
  refine sN 12 hH ?_
  refine sE ?_
  clear x6 x7 x8 x9 s0 s1 gg
  obtain ⟨x6, x7, x8, x9, s0, s1, gg⟩ := hH
  go_upto_region 6 with fail
  replace Zb := Zb.drew.drew
  replace Zr := Zr.drew.drew
  have c1 := gg.all c0
  have f1 := kep_froz gg (by rw [c0]; rfl) f0
  have FG := Lib.hid (Flg.at_ c0 f0 gg)
  have hl := gg.size
  clear Zs c0 f0 x6 x7 x8 x9 s0 s1
  generalize W1.drew.drew = W2 at *
  have x6 := Zb.i (i := 6) rfl
  have x7 := Zb.i (i := 7) rfl
  have zb := Zb.lt
  have n1 : w.heap.size ≠ cb := by omega
  have n2 : w.heap.size + 1 ≠ cb := by omega
  clear gg
  go_upto_region 7 with (first
    | ((with_reducible refine (C3.out z _ cb _ ?_ ?_ ?_).mono ?_)
       · exact (zc_new _ _ _).i (i := 0) rfl
       · exact (kep_more (Kep.refl _ _) _).all c1
       · exact kep_froz (kep_more (Kep.refl _ _) _) (by rw [c1]; rfl) f1
       rintro e w2 ⟨rfl, h2⟩
       replace Zb := h2.fr.zc n1 n1 (Zb.more _)
       replace Zr := h2.fr.zc n2 n2 (Zr.more _)
       have q6 := Zb.frz 6
       have q7 := Zb.frz 7
       have FG2 := Lib.hid ((FG.out.kep (kep_more (Kep.refl _ _) _)).trans h2)
       clear FG h2 x6 x7 zb; have x6 := Zb.i (i := 6) rfl; have x7 := Zb.i (i := 7) rfl; have zb := Zb.lt))
  generalize hV : World.setCell _ _ _ = V
  replace Zb : ZC V (w.heap.size) [.int .u32 x.k, .int .i32 x.r, .int .i32 x.ax, .int .i32 x.ay, .int .i32 x.m, .int .i32 x.o, .int .i32 a, .int .i32 b, .int .i32 x.vx, .int .i32 x.vy] := by rw [← hV]; exact (Zb.put (i := 6) _ (by simp)).put (i := 7) _ (by simp)
  replace Zr : ZC V (w.heap.size + 1) [.int .u32 0, .int .i32 0, .int .i32 0, .int .i32 0, .int .i32 0, .int .i32 0, .int .i32 0, .int .i32 0, .int .i32 0, .int .i32 0] := by rw [← hV]; exact (Zr.far1 (by omega) _).far1 (by omega) _
  replace FG2 := Lib.hid (show Flg w V cb (z || c) by rw [← hV]; exact (FG2.out.far (by omega) n1 _ _).far (by omega) n1 _ _)
  clear hV x6 x7 q6 q7 c1 f1
  have Za := za_of Zb
  have r0 : V.cell? ⟨w.heap.size + 1, 0, none⟩ = some (.int .u32 0) := Zr.i (i := 0) rfl
  have r1 : V.cell? ⟨w.heap.size + 1, 1, none⟩ = some (.int .i32 0) := Zr.i (i := 1) rfl
  have r2 : V.cell? ⟨w.heap.size + 1, 2, none⟩ = some (.int .i32 0) := Zr.i (i := 2) rfl
  have r3 : V.cell? ⟨w.heap.size + 1, 3, none⟩ = some (.int .i32 0) := Zr.i (i := 3) rfl
  have r4 : V.cell? ⟨w.heap.size + 1, 4, none⟩ = some (.int .i32 0) := Zr.i (i := 4) rfl
  have r5 : V.cell? ⟨w.heap.size + 1, 5, none⟩ = some (.int .i32 0) := Zr.i (i := 5) rfl
  have r6 : V.cell? ⟨w.heap.size + 1, 6, none⟩ = some (.int .i32 0) := Zr.i (i := 6) rfl
  have r7 : V.cell? ⟨w.heap.size + 1, 7, none⟩ = some (.int .i32 0) := Zr.i (i := 7) rfl
  have r8 : V.cell? ⟨w.heap.size + 1, 8, none⟩ = some (.int .i32 0) := Zr.i (i := 8) rfl
  have r9 : V.cell? ⟨w.heap.size + 1, 9, none⟩ = some (.int .i32 0) := Zr.i (i := 9) rfl
  have fr0 : V.frozen? ⟨w.heap.size + 1, 0, none⟩ = false := Zr.frz 0
  have fr1 : V.frozen? ⟨w.heap.size + 1, 1, none⟩ = false := Zr.frz 1
  have fr2 : V.frozen? ⟨w.heap.size + 1, 2, none⟩ = false := Zr.frz 2
  have fr3 : V.frozen? ⟨w.heap.size + 1, 3, none⟩ = false := Zr.frz 3
  have fr4 : V.frozen? ⟨w.heap.size + 1, 4, none⟩ = false := Zr.frz 4
  have fr5 : V.frozen? ⟨w.heap.size + 1, 5, none⟩ = false := Zr.frz 5
  have fr6 : V.frozen? ⟨w.heap.size + 1, 6, none⟩ = false := Zr.frz 6
  have fr7 : V.frozen? ⟨w.heap.size + 1, 7, none⟩ = false := Zr.frz 7
  have fr8 : V.frozen? ⟨w.heap.size + 1, 8, none⟩ = false := Zr.frz 8
  have fr9 : V.frozen? ⟨w.heap.size + 1, 9, none⟩ = false := Zr.frz 9
  have zr := Zr.lt
  go_wp2_with fail
  have hst := Zr.set [.int .u32 x.k, .int .i32 x.r, .int .i32 x.ax, .int .i32 x.ay, .int .i32 x.m, .int .i32 x.o, .int .i32 a, .int .i32 b, .int .i32 x.vx, .int .i32 x.vy] (by simp)
  simp only [setAll, Nat.zero_add, Nat.reduceAdd] at hst
  have hst0 := hst.i (i := 0) rfl
  have hst1 := hst.i (i := 1) rfl
  have hst2 := hst.i (i := 2) rfl
  have hst3 := hst.i (i := 3) rfl
  have hst4 := hst.i (i := 4) rfl
  have hst5 := hst.i (i := 5) rfl
  have hst6 := hst.i (i := 6) rfl
  have hst7 := hst.i (i := 7) rfl
  have hst8 := hst.i (i := 8) rfl
  have hst9 := hst.i (i := 9) rfl
  exact bodyPost_ret (v := .agg #[.int .u32 x.k, .int .i32 x.r, .int .i32 x.ax, .int .i32 x.ay, .int .i32 x.m, .int .i32 x.o, .int .i32 a, .int .i32 b, .int .i32 x.vx, .int .i32 x.vy]) (by simp [results, Try.results28, go_sem, hst0, hst1, hst2, hst3, hst4, hst5, hst6, hst7, hst8, hst9]) rfl ⟨rfl, Flg.sets (b := w.heap.size + 1) (by omega) n2 [.int .u32 x.k, .int .i32 x.r, .int .i32 x.ax, .int .i32 x.ay, .int .i32 x.m, .int .i32 x.o, .int .i32 a, .int .i32 b, .int .i32 x.vx, .int .i32 x.vy] 0 FG2.out⟩
set_option maxRecDepth 100000 in
set_option maxHeartbeats 4000000 in
theorem yp1 {x : Bd} {j l u v tx ty a b : Int} {c : Bool} (h1 : IntKind.i64.wrap x.vx = x.vx) (h2 : IntKind.i64.wrap (x.vx + u) = tx) (T1 : KGn j x.m u) (h4 : IntKind.i64.wrap x.vy = x.vy) (h5 : IntKind.i64.wrap (x.vy + v) = ty) (T2 : KGn l x.m v) (X : KLm tx ty 16777216 a b c) (w : World) :
    Calls Try.prog 17 #[.agg #[.int .u32 x.k, .int .i32 x.r, .int .i32 x.ax, .int .i32 x.ay, .int .i32 x.m, .int .i32 x.o, .int .i32 x.px, .int .i32 x.py, .int .i32 x.vx, .int .i32 x.vy], .agg #[.int .i32 j, .int .i32 l]] w fun e w' => e = .returned (.tuple #[.agg #[.int .u32 (velB x a b).k, .int .i32 (velB x a b).r, .int .i32 (velB x a b).ax, .int .i32 (velB x a b).ay, .int .i32 (velB x a b).m, .int .i32 (velB x a b).o, .int .i32 (velB x a b).px, .int .i32 (velB x a b).py, .int .i32 (velB x a b).vx, .int .i32 (velB x a b).vy], .bool c]) ∧ Kep w.heap.size w w' := by
  have C1 := Lib.hid T1
  have C2 := Lib.hid T2
  have C3 := Lib.hid X
  clear X T1 T2
  go_enter Try.func17, Try.ntmps17
  go_upto_region 2 with fail
  generalize hW : World.alloc (World.alloc (World.alloc (World.alloc w _) _) _) _ = W1
  have Zb : ZC W1 (w.heap.size) [.int .u32 x.k, .int .i32 x.r, .int .i32 x.ax, .int .i32 x.ay, .int .i32 x.m, .int .i32 x.o, .int .i32 x.px, .int .i32 x.py, .int .i32 x.vx, .int .i32 x.vy] := by rw [← hW]; exact (ZC.more (ZC.more (ZC.more (zc_new' _ _ _ (by first | rfl | simp)) _) _) _)
  have Zj : ZC W1 (w.heap.size + 1) [.int .i32 j, .int .i32 l] := by rw [← hW]; exact (ZC.more (ZC.more (zc_new' _ _ _ (by first | rfl | simp)) _) _)
  have Zr : ZC W1 (w.heap.size + 1 + 1) [.int .u32 0, .int .i32 0, .int .i32 0, .int .i32 0, .int .i32 0, .int .i32 0, .int .i32 0, .int .i32 0, .int .i32 0, .int .i32 0] := by rw [← hW]; exact (ZC.more (zc_new' _ _ _ (by first | rfl | simp)) _)
  have Zc : ZC W1 (w.heap.size + 1 + 1 + 1) [.bool false] := by rw [← hW]; exact (zc_new' _ _ _ (by first | rfl | simp))
  have gg : Kep w.heap.size w W1 := by rw [← hW]; exact (kep_more (kep_more (kep_more (kep_more (Kep.refl _ _) _) _) _) _)
  clear hW
  have x4 := Zb.i (i := 4) rfl
  have x8 := Zb.i (i := 8) rfl
  have x9 := Zb.i (i := 9) rfl
  have j0 := Zj.i (i := 0) rfl
  have j1 := Zj.i (i := 1) rfl
  refine wp_region_noPanic ?_
  refine wp_region_held_drew (S := (fun w' => w'.cell? ⟨w.heap.size, 4, none⟩ = some (.int .i32 x.m) ∧ w'.cell? ⟨w.heap.size, 8, none⟩ = some (.int .i32 x.vx) ∧ w'.cell? ⟨w.heap.size, 9, none⟩ = some (.int .i32 x.vy) ∧ w'.cell? ⟨w.heap.size + 1, 0, none⟩ = some (.int .i32 j) ∧ w'.cell? ⟨w.heap.size + 1, 1, none⟩ = some (.int .i32 l) ∧ Kep w.heap.size w w')) (by kernel_rfl) (⟨by rw [World.cell?_drew]; exact x4, by rw [World.cell?_drew]; exact x8, by rw [World.cell?_drew]; exact x9, by rw [World.cell?_drew]; exact j0, by rw [World.cell?_drew]; exact j1, kep_drew gg⟩) (fun hH => ?_)
  refine sT 0 hH ?_
  refine sT 1 hH ?_
  refine sT 2 hH ?_
  refine sN 3 hH ?_
  refine sT 4 hH ?_
  refine sT 5 hH ?_
  refine sT 6 hH ?_
  refine sN 7 hH ?_
  refine sC 8 (fun K hK => ?_)
  go_simp
  (with_reducible refine (C1.out _).mono ?_); rintro e v2_8 ⟨rfl, rfl⟩
  refine hK.out _ _ hH (fun hH2 => ?_)
  clear hK K hH; have hH := hH2; clear hH2
  refine sT 9 hH ?_
  refine sN 10 hH ?_
  refine sE ?_
  clear x4 x8 x9 j0 j1 gg
  obtain ⟨x4, x8, x9, j0, j1, gg⟩ := hH
  go_upto_region 3 with fail
  refine wp_region_noPanic ?_
  refine wp_region_held_drew (S := (fun w' => w'.cell? ⟨w.heap.size, 4, none⟩ = some (.int .i32 x.m) ∧ w'.cell? ⟨w.heap.size, 8, none⟩ = some (.int .i32 x.vx) ∧ w'.cell? ⟨w.heap.size, 9, none⟩ = some (.int .i32 x.vy) ∧ w'.cell? ⟨w.heap.size + 1, 0, none⟩ = some (.int .i32 j) ∧ w'.cell? ⟨w.heap.size + 1, 1, none⟩ = some (.int .i32 l) ∧ Kep w.heap.size w w')) (by kernel_rfl) (⟨by rw [World.cell?_drew]; exact x4, by rw [World.cell?_drew]; exact x8, by rw [World.cell?_drew]; exact x9, by rw [World.cell?_drew]; exact j0, by rw [World.cell?_drew]; exact j1, kep_drew gg⟩) (fun hH => ?_)
  refine sT 0 hH ?_
  refine sT 1 hH ?_
  refine sT 2 hH ?_
  refine sN 3 hH ?_
  refine sT 4 hH ?_
  refine sT 5 hH ?_
  refine sT 6 hH ?_
  refine sN 7 hH ?_
  refine sC 8 (fun K hK => ?_)
  go_simp
  (with_reducible refine (C2.out _).mono ?_); rintro e v3_8 ⟨rfl, rfl⟩
  refine hK.out _ _ hH (fun hH2 => ?_)
  clear hK K hH; have hH := hH2; clear hH2
  refine sT 9 hH ?_
  refine sN 10 hH ?_
  refine sE ?_
  clear x4 x8 x9 j0 j1 gg
  obtain ⟨x4, x8, x9, j0, j1, gg⟩ := hH
  go_upto_region 4 with fail
  replace Zb := Zb.drew.drew
  replace Zr := Zr.drew.drew
  replace Zc := Zc.drew.drew
  have hl := gg.size
  obtain ⟨cb, hcb⟩ : ∃ cb, cb = w.heap.size + 1 + 1 + 1 := ⟨_, rfl⟩
  rw [← hcb] at Zc
  have c1 := Zc.i (i := 0) rfl
  have f1 := Zc.frz 0
  have n1 : w.heap.size ≠ cb := by omega
  have n2 : w.heap.size + 1 + 1 ≠ cb := by omega
  have FG := Lib.hid (Flg.self c1 f1)
  have hB : w.heap.size ≤ cb := by omega
  clear Zj x4 x8 x9 j0 j1
  rw [← hcb]
  clear hcb
  generalize W1.drew.drew = W2 at *
  have x8 := Zb.i (i := 8) rfl
  have x9 := Zb.i (i := 9) rfl
  have zb := Zb.lt
  go_upto_region 5 with (first
    | ((with_reducible refine (C3.out false _ cb _ ?_ ?_ ?_).mono ?_)
       · exact (zc_new _ _ _).i (i := 0) rfl
       · exact (kep_more (Kep.refl _ _) _).all c1
       · exact kep_froz (kep_more (Kep.refl _ _) _) (by rw [c1]; rfl) f1
       rintro e w2 ⟨rfl, h2⟩
       replace Zb := h2.fr.zc n1 n1 (Zb.more _)
       replace Zr := h2.fr.zc n2 n2 (Zr.more _)
       have q8 := Zb.frz 8
       have q9 := Zb.frz 9
       have FG2 := Lib.hid ((FG.out.kep (kep_more (Kep.refl _ _) _)).trans h2)
       clear FG h2 x8 x9 zb; have x8 := Zb.i (i := 8) rfl; have x9 := Zb.i (i := 9) rfl; have zb := Zb.lt))
  generalize hV : World.setCell _ _ _ = V
  replace Zb : ZC V w.heap.size [.int .u32 x.k, .int .i32 x.r, .int .i32 x.ax, .int .i32 x.ay, .int .i32 x.m, .int .i32 x.o, .int .i32 x.px, .int .i32 x.py, .int .i32 a, .int .i32 b] := by rw [← hV]; exact (Zb.put (i := 8) _ (by simp)).put (i := 9) _ (by simp)
  replace Zr : ZC V (w.heap.size + 1 + 1) [.int .u32 0, .int .i32 0, .int .i32 0, .int .i32 0, .int .i32 0, .int .i32 0, .int .i32 0, .int .i32 0, .int .i32 0, .int .i32 0] := by rw [← hV]; exact (Zr.far1 (by omega) _).far1 (by omega) _
  have c0 : V.cell? ⟨cb, 0, none⟩ = some (.bool c) := by rw [← hV]; exact sset_far (sset_far (by rw [← Bool.false_or c]; exact FG2.out.c) n1) n1
  replace gg : Kep w.heap.size w V := by rw [← hV]; exact ((gg.trans (FG2.out.fr.down hB hB hl)).setCell (Nat.le_refl _) _).setCell (Nat.le_refl _) _
  clear hV x8 x9 q8 q9 c1 f1 FG2 zb
  have x0 := Zb.i (i := 0) rfl
  have x1 := Zb.i (i := 1) rfl
  have x2 := Zb.i (i := 2) rfl
  have x3 := Zb.i (i := 3) rfl
  have x4 := Zb.i (i := 4) rfl
  have x5 := Zb.i (i := 5) rfl
  have x6 := Zb.i (i := 6) rfl
  have x7 := Zb.i (i := 7) rfl
  have x8 := Zb.i (i := 8) rfl
  have x9 := Zb.i (i := 9) rfl
  have sr0 : (V.cell? ⟨w.heap.size + 1 + 1, 0, none⟩).isSome = true := by rw [Zr.i (i := 0) rfl]; rfl
  have sr1 : (V.cell? ⟨w.heap.size + 1 + 1, 1, none⟩).isSome = true := by rw [Zr.i (i := 1) rfl]; rfl
  have sr2 : (V.cell? ⟨w.heap.size + 1 + 1, 2, none⟩).isSome = true := by rw [Zr.i (i := 2) rfl]; rfl
  have sr3 : (V.cell? ⟨w.heap.size + 1 + 1, 3, none⟩).isSome = true := by rw [Zr.i (i := 3) rfl]; rfl
  have sr4 : (V.cell? ⟨w.heap.size + 1 + 1, 4, none⟩).isSome = true := by rw [Zr.i (i := 4) rfl]; rfl
  have sr5 : (V.cell? ⟨w.heap.size + 1 + 1, 5, none⟩).isSome = true := by rw [Zr.i (i := 5) rfl]; rfl
  have sr6 : (V.cell? ⟨w.heap.size + 1 + 1, 6, none⟩).isSome = true := by rw [Zr.i (i := 6) rfl]; rfl
  have sr7 : (V.cell? ⟨w.heap.size + 1 + 1, 7, none⟩).isSome = true := by rw [Zr.i (i := 7) rfl]; rfl
  have sr8 : (V.cell? ⟨w.heap.size + 1 + 1, 8, none⟩).isSome = true := by rw [Zr.i (i := 8) rfl]; rfl
  have sr9 : (V.cell? ⟨w.heap.size + 1 + 1, 9, none⟩).isSome = true := by rw [Zr.i (i := 9) rfl]; rfl
  have fr0 := Zr.frz 0
  have fr1 := Zr.frz 1
  have fr2 := Zr.frz 2
  have fr3 := Zr.frz 3
  have fr4 := Zr.frz 4
  have fr5 := Zr.frz 5
  have fr6 := Zr.frz 6
  have fr7 := Zr.frz 7
  have fr8 := Zr.frz 8
  have fr9 := Zr.frz 9
  clear Zb Zr Zc
  refine wp_region_noPanic ?_
  refine wp_region_held_drew (S := (fun w' => w'.cell? ⟨w.heap.size, 0, none⟩ = some (.int .u32 x.k) ∧ w'.cell? ⟨w.heap.size, 1, none⟩ = some (.int .i32 x.r) ∧ w'.cell? ⟨w.heap.size, 2, none⟩ = some (.int .i32 x.ax) ∧ w'.cell? ⟨w.heap.size, 3, none⟩ = some (.int .i32 x.ay) ∧ w'.cell? ⟨w.heap.size, 4, none⟩ = some (.int .i32 x.m) ∧ w'.cell? ⟨w.heap.size, 5, none⟩ = some (.int .i32 x.o) ∧ w'.cell? ⟨w.heap.size, 6, none⟩ = some (.int .i32 x.px) ∧ w'.cell? ⟨w.heap.size, 7, none⟩ = some (.int .i32 x.py) ∧ w'.cell? ⟨w.heap.size, 8, none⟩ = some (.int .i32 a) ∧ w'.cell? ⟨w.heap.size, 9, none⟩ = some (.int .i32 b) ∧ w'.cell? ⟨cb, 0, none⟩ = some (.bool c) ∧ (w'.cell? ⟨w.heap.size + 1 + 1, 0, none⟩).isSome = true ∧ (w'.cell? ⟨w.heap.size + 1 + 1, 1, none⟩).isSome = true ∧ (w'.cell? ⟨w.heap.size + 1 + 1, 2, none⟩).isSome = true ∧ (w'.cell? ⟨w.heap.size + 1 + 1, 3, none⟩).isSome = true ∧ (w'.cell? ⟨w.heap.size + 1 + 1, 4, none⟩).isSome = true ∧ (w'.cell? ⟨w.heap.size + 1 + 1, 5, none⟩).isSome = true ∧ (w'.cell? ⟨w.heap.size + 1 + 1, 6, none⟩).isSome = true ∧ (w'.cell? ⟨w.heap.size + 1 + 1, 7, none⟩).isSome = true ∧ (w'.cell? ⟨w.heap.size + 1 + 1, 8, none⟩).isSome = true ∧ (w'.cell? ⟨w.heap.size + 1 + 1, 9, none⟩).isSome = true ∧ w'.frozen? ⟨w.heap.size + 1 + 1, 0, none⟩ = false ∧ w'.frozen? ⟨w.heap.size + 1 + 1, 1, none⟩ = false ∧ w'.frozen? ⟨w.heap.size + 1 + 1, 2, none⟩ = false ∧ w'.frozen? ⟨w.heap.size + 1 + 1, 3, none⟩ = false ∧ w'.frozen? ⟨w.heap.size + 1 + 1, 4, none⟩ = false ∧ w'.frozen? ⟨w.heap.size + 1 + 1, 5, none⟩ = false ∧ w'.frozen? ⟨w.heap.size + 1 + 1, 6, none⟩ = false ∧ w'.frozen? ⟨w.heap.size + 1 + 1, 7, none⟩ = false ∧ w'.frozen? ⟨w.heap.size + 1 + 1, 8, none⟩ = false ∧ w'.frozen? ⟨w.heap.size + 1 + 1, 9, none⟩ = false ∧ Kep w.heap.size w w')) (by kernel_rfl) (⟨by rw [World.cell?_drew]; exact x0, by rw [World.cell?_drew]; exact x1, by rw [World.cell?_drew]; exact x2, by rw [World.cell?_drew]; exact x3, by rw [World.cell?_drew]; exact x4, by rw [World.cell?_drew]; exact x5, by rw [World.cell?_drew]; exact x6, by rw [World.cell?_drew]; exact x7, by rw [World.cell?_drew]; exact x8, by rw [World.cell?_drew]; exact x9, by rw [World.cell?_drew]; exact c0, by rw [World.cell?_drew]; exact sr0, by rw [World.cell?_drew]; exact sr1, by rw [World.cell?_drew]; exact sr2, by rw [World.cell?_drew]; exact sr3, by rw [World.cell?_drew]; exact sr4, by rw [World.cell?_drew]; exact sr5, by rw [World.cell?_drew]; exact sr6, by rw [World.cell?_drew]; exact sr7, by rw [World.cell?_drew]; exact sr8, by rw [World.cell?_drew]; exact sr9, by rw [World.frozen?_drew]; exact fr0, by rw [World.frozen?_drew]; exact fr1, by rw [World.frozen?_drew]; exact fr2, by rw [World.frozen?_drew]; exact fr3, by rw [World.frozen?_drew]; exact fr4, by rw [World.frozen?_drew]; exact fr5, by rw [World.frozen?_drew]; exact fr6, by rw [World.frozen?_drew]; exact fr7, by rw [World.frozen?_drew]; exact fr8, by rw [World.frozen?_drew]; exact fr9, kep_drew gg⟩) (fun hH => ?_)
  generalize V.drew = V5 at *
  refine sT 0 hH ?_
  refine sN 1 hH ?_
  obtain ⟨x0, x1, x2, x3, x4, x5, x6, x7, x8, x9, c0, sr0, sr1, sr2, sr3, sr4, sr5, sr6, sr7, sr8, sr9, fr0, fr1, fr2, fr3, fr4, fr5, fr6, fr7, fr8, fr9, gg⟩ := id hH
  refine sC 2 (fun K hK => ?_)
  obtain ⟨qr0, eqr0⟩ := Option.isSome_iff_exists.1 sr0
  obtain ⟨qr1, eqr1⟩ := Option.isSome_iff_exists.1 sr1
  obtain ⟨qr2, eqr2⟩ := Option.isSome_iff_exists.1 sr2
  obtain ⟨qr3, eqr3⟩ := Option.isSome_iff_exists.1 sr3
  obtain ⟨qr4, eqr4⟩ := Option.isSome_iff_exists.1 sr4
  obtain ⟨qr5, eqr5⟩ := Option.isSome_iff_exists.1 sr5
  obtain ⟨qr6, eqr6⟩ := Option.isSome_iff_exists.1 sr6
  obtain ⟨qr7, eqr7⟩ := Option.isSome_iff_exists.1 sr7
  obtain ⟨qr8, eqr8⟩ := Option.isSome_iff_exists.1 sr8
  obtain ⟨qr9, eqr9⟩ := Option.isSome_iff_exists.1 sr9
  have br0 := eqr0
  have br1 := eqr1
  have br2 := eqr2
  have br3 := eqr3
  have br4 := eqr4
  have br5 := eqr5
  have br6 := eqr6
  have br7 := eqr7
  have br8 := eqr8
  have br9 := eqr9
  go_simp
  refine hK.out _ _ (by (try dsimp only); exact ⟨sset_far (sset_far (sset_far (sset_far (sset_far (sset_far (sset_far (sset_far (sset_far (sset_far (x0) (by first | (simp; done) | (simp; omega))) (by first | (simp; done) | (simp; omega))) (by first | (simp; done) | (simp; omega))) (by first | (simp; done) | (simp; omega))) (by first | (simp; done) | (simp; omega))) (by first | (simp; done) | (simp; omega))) (by first | (simp; done) | (simp; omega))) (by first | (simp; done) | (simp; omega))) (by first | (simp; done) | (simp; omega))) (by first | (simp; done) | (simp; omega)), sset_far (sset_far (sset_far (sset_far (sset_far (sset_far (sset_far (sset_far (sset_far (sset_far (x1) (by first | (simp; done) | (simp; omega))) (by first | (simp; done) | (simp; omega))) (by first | (simp; done) | (simp; omega))) (by first | (simp; done) | (simp; omega))) (by first | (simp; done) | (simp; omega))) (by first | (simp; done) | (simp; omega))) (by first | (simp; done) | (simp; omega))) (by first | (simp; done) | (simp; omega))) (by first | (simp; done) | (simp; omega))) (by first | (simp; done) | (simp; omega)), sset_far (sset_far (sset_far (sset_far (sset_far (sset_far (sset_far (sset_far (sset_far (sset_far (x2) (by first | (simp; done) | (simp; omega))) (by first | (simp; done) | (simp; omega))) (by first | (simp; done) | (simp; omega))) (by first | (simp; done) | (simp; omega))) (by first | (simp; done) | (simp; omega))) (by first | (simp; done) | (simp; omega))) (by first | (simp; done) | (simp; omega))) (by first | (simp; done) | (simp; omega))) (by first | (simp; done) | (simp; omega))) (by first | (simp; done) | (simp; omega)), sset_far (sset_far (sset_far (sset_far (sset_far (sset_far (sset_far (sset_far (sset_far (sset_far (x3) (by first | (simp; done) | (simp; omega))) (by first | (simp; done) | (simp; omega))) (by first | (simp; done) | (simp; omega))) (by first | (simp; done) | (simp; omega))) (by first | (simp; done) | (simp; omega))) (by first | (simp; done) | (simp; omega))) (by first | (simp; done) | (simp; omega))) (by first | (simp; done) | (simp; omega))) (by first | (simp; done) | (simp; omega))) (by first | (simp; done) | (simp; omega)), sset_far (sset_far (sset_far (sset_far (sset_far (sset_far (sset_far (sset_far (sset_far (sset_far (x4) (by first | (simp; done) | (simp; omega))) (by first | (simp; done) | (simp; omega))) (by first | (simp; done) | (simp; omega))) (by first | (simp; done) | (simp; omega))) (by first | (simp; done) | (simp; omega))) (by first | (simp; done) | (simp; omega))) (by first | (simp; done) | (simp; omega))) (by first | (simp; done) | (simp; omega))) (by first | (simp; done) | (simp; omega))) (by first | (simp; done) | (simp; omega)), sset_far (sset_far (sset_far (sset_far (sset_far (sset_far (sset_far (sset_far (sset_far (sset_far (x5) (by first | (simp; done) | (simp; omega))) (by first | (simp; done) | (simp; omega))) (by first | (simp; done) | (simp; omega))) (by first | (simp; done) | (simp; omega))) (by first | (simp; done) | (simp; omega))) (by first | (simp; done) | (simp; omega))) (by first | (simp; done) | (simp; omega))) (by first | (simp; done) | (simp; omega))) (by first | (simp; done) | (simp; omega))) (by first | (simp; done) | (simp; omega)), sset_far (sset_far (sset_far (sset_far (sset_far (sset_far (sset_far (sset_far (sset_far (sset_far (x6) (by first | (simp; done) | (simp; omega))) (by first | (simp; done) | (simp; omega))) (by first | (simp; done) | (simp; omega))) (by first | (simp; done) | (simp; omega))) (by first | (simp; done) | (simp; omega))) (by first | (simp; done) | (simp; omega))) (by first | (simp; done) | (simp; omega))) (by first | (simp; done) | (simp; omega))) (by first | (simp; done) | (simp; omega))) (by first | (simp; done) | (simp; omega)), sset_far (sset_far (sset_far (sset_far (sset_far (sset_far (sset_far (sset_far (sset_far (sset_far (x7) (by first | (simp; done) | (simp; omega))) (by first | (simp; done) | (simp; omega))) (by first | (simp; done) | (simp; omega))) (by first | (simp; done) | (simp; omega))) (by first | (simp; done) | (simp; omega))) (by first | (simp; done) | (simp; omega))) (by first | (simp; done) | (simp; omega))) (by first | (simp; done) | (simp; omega))) (by first | (simp; done) | (simp; omega))) (by first | (simp; done) | (simp; omega)), sset_far (sset_far (sset_far (sset_far (sset_far (sset_far (sset_far (sset_far (sset_far (sset_far (x8) (by first | (simp; done) | (simp; omega))) (by first | (simp; done) | (simp; omega))) (by first | (simp; done) | (simp; omega))) (by first | (simp; done) | (simp; omega))) (by first | (simp; done) | (simp; omega))) (by first | (simp; done) | (simp; omega))) (by first | (simp; done) | (simp; omega))) (by first | (simp; done) | (simp; omega))) (by first | (simp; done) | (simp; omega))) (by first | (simp; done) | (simp; omega)), sset_far (sset_far (sset_far (sset_far (sset_far (sset_far (sset_far (sset_far (sset_far (sset_far (x9) (by first | (simp; done) | (simp; omega))) (by first | (simp; done) | (simp; omega))) (by first | (simp; done) | (simp; omega))) (by first | (simp; done) | (simp; omega))) (by first | (simp; done) | (simp; omega))) (by first | (simp; done) | (simp; omega))) (by first | (simp; done) | (simp; omega))) (by first | (simp; done) | (simp; omega))) (by first | (simp; done) | (simp; omega))) (by first | (simp; done) | (simp; omega)), sset_far (sset_far (sset_far (sset_far (sset_far (sset_far (sset_far (sset_far (sset_far (sset_far (c0) (by first | (simp; done) | (simp; omega))) (by first | (simp; done) | (simp; omega))) (by first | (simp; done) | (simp; omega))) (by first | (simp; done) | (simp; omega))) (by first | (simp; done) | (simp; omega))) (by first | (simp; done) | (simp; omega))) (by first | (simp; done) | (simp; omega))) (by first | (simp; done) | (simp; omega))) (by first | (simp; done) | (simp; omega))) (by first | (simp; done) | (simp; omega)), sset_some _ _ _ (sset_some _ _ _ (sset_some _ _ _ (sset_some _ _ _ (sset_some _ _ _ (sset_some _ _ _ (sset_some _ _ _ (sset_some _ _ _ (sset_some _ _ _ (sset_some _ _ _ (sr0)))))))))), sset_some _ _ _ (sset_some _ _ _ (sset_some _ _ _ (sset_some _ _ _ (sset_some _ _ _ (sset_some _ _ _ (sset_some _ _ _ (sset_some _ _ _ (sset_some _ _ _ (sset_some _ _ _ (sr1)))))))))), sset_some _ _ _ (sset_some _ _ _ (sset_some _ _ _ (sset_some _ _ _ (sset_some _ _ _ (sset_some _ _ _ (sset_some _ _ _ (sset_some _ _ _ (sset_some _ _ _ (sset_some _ _ _ (sr2)))))))))), sset_some _ _ _ (sset_some _ _ _ (sset_some _ _ _ (sset_some _ _ _ (sset_some _ _ _ (sset_some _ _ _ (sset_some _ _ _ (sset_some _ _ _ (sset_some _ _ _ (sset_some _ _ _ (sr3)))))))))), sset_some _ _ _ (sset_some _ _ _ (sset_some _ _ _ (sset_some _ _ _ (sset_some _ _ _ (sset_some _ _ _ (sset_some _ _ _ (sset_some _ _ _ (sset_some _ _ _ (sset_some _ _ _ (sr4)))))))))), sset_some _ _ _ (sset_some _ _ _ (sset_some _ _ _ (sset_some _ _ _ (sset_some _ _ _ (sset_some _ _ _ (sset_some _ _ _ (sset_some _ _ _ (sset_some _ _ _ (sset_some _ _ _ (sr5)))))))))), sset_some _ _ _ (sset_some _ _ _ (sset_some _ _ _ (sset_some _ _ _ (sset_some _ _ _ (sset_some _ _ _ (sset_some _ _ _ (sset_some _ _ _ (sset_some _ _ _ (sset_some _ _ _ (sr6)))))))))), sset_some _ _ _ (sset_some _ _ _ (sset_some _ _ _ (sset_some _ _ _ (sset_some _ _ _ (sset_some _ _ _ (sset_some _ _ _ (sset_some _ _ _ (sset_some _ _ _ (sset_some _ _ _ (sr7)))))))))), sset_some _ _ _ (sset_some _ _ _ (sset_some _ _ _ (sset_some _ _ _ (sset_some _ _ _ (sset_some _ _ _ (sset_some _ _ _ (sset_some _ _ _ (sset_some _ _ _ (sset_some _ _ _ (sr8)))))))))), sset_some _ _ _ (sset_some _ _ _ (sset_some _ _ _ (sset_some _ _ _ (sset_some _ _ _ (sset_some _ _ _ (sset_some _ _ _ (sset_some _ _ _ (sset_some _ _ _ (sset_some _ _ _ (sr9)))))))))), sset_froz (sset_froz (sset_froz (sset_froz (sset_froz (sset_froz (sset_froz (sset_froz (sset_froz (sset_froz (fr0)))))))))), sset_froz (sset_froz (sset_froz (sset_froz (sset_froz (sset_froz (sset_froz (sset_froz (sset_froz (sset_froz (fr1)))))))))), sset_froz (sset_froz (sset_froz (sset_froz (sset_froz (sset_froz (sset_froz (sset_froz (sset_froz (sset_froz (fr2)))))))))), sset_froz (sset_froz (sset_froz (sset_froz (sset_froz (sset_froz (sset_froz (sset_froz (sset_froz (sset_froz (fr3)))))))))), sset_froz (sset_froz (sset_froz (sset_froz (sset_froz (sset_froz (sset_froz (sset_froz (sset_froz (sset_froz (fr4)))))))))), sset_froz (sset_froz (sset_froz (sset_froz (sset_froz (sset_froz (sset_froz (sset_froz (sset_froz (sset_froz (fr5)))))))))), sset_froz (sset_froz (sset_froz (sset_froz (sset_froz (sset_froz (sset_froz (sset_froz (sset_froz (sset_froz (fr6)))))))))), sset_froz (sset_froz (sset_froz (sset_froz (sset_froz (sset_froz (sset_froz (sset_froz (sset_froz (sset_froz (fr7)))))))))), sset_froz (sset_froz (sset_froz (sset_froz (sset_froz (sset_froz (sset_froz (sset_froz (sset_froz (sset_froz (fr8)))))))))), sset_froz (sset_froz (sset_froz (sset_froz (sset_froz (sset_froz (sset_froz (sset_froz (sset_froz (sset_froz (fr9)))))))))), kep_set (kep_set (kep_set (kep_set (kep_set (kep_set (kep_set (kep_set (kep_set (kep_set (gg) (by first | (simp; done) | (simp; omega)) _) (by first | (simp; done) | (simp; omega)) _) (by first | (simp; done) | (simp; omega)) _) (by first | (simp; done) | (simp; omega)) _) (by first | (simp; done) | (simp; omega)) _) (by first | (simp; done) | (simp; omega)) _) (by first | (simp; done) | (simp; omega)) _) (by first | (simp; done) | (simp; omega)) _) (by first | (simp; done) | (simp; omega)) _) (by first | (simp; done) | (simp; omega)) _⟩) (fun hH2 => ?_)
  clear hK K hH x0 x1 x2 x3 x4 x5 x6 x7 x8 x9 c0 sr0 sr1 sr2 sr3 sr4 sr5 sr6 sr7 sr8 sr9 fr0 fr1 fr2 fr3 fr4 fr5 fr6 fr7 fr8 fr9 gg eqr0 eqr1 eqr2 eqr3 eqr4 eqr5 eqr6 eqr7 eqr8 eqr9; have hH := hH2; clear hH2
  refine sN 3 hH ?_
  refine sE ?_
  clear x0 x1 x2 x3 x4 x5 x6 x7 x8 x9 c0 sr0 sr1 sr2 sr3 sr4 sr5 sr6 sr7 sr8 sr9 fr0 fr1 fr2 fr3 fr4 fr5 fr6 fr7 fr8 fr9 gg
  obtain ⟨x0, x1, x2, x3, x4, x5, x6, x7, x8, x9, c0, sr0, sr1, sr2, sr3, sr4, sr5, sr6, sr7, sr8, sr9, fr0, fr1, fr2, fr3, fr4, fr5, fr6, fr7, fr8, fr9, gg⟩ := hH
  go_wp2_with fail
  exact bodyPost_ret (v := .tuple #[.agg #[.int .u32 x.k, .int .i32 x.r, .int .i32 x.ax, .int .i32 x.ay, .int .i32 x.m, .int .i32 x.o, .int .i32 x.px, .int .i32 x.py, .int .i32 a, .int .i32 b], .bool c]) (by simp [results, Try.results17, go_sem, br0, br1, br2, br3, br4, br5, br6, br7, br8, br9]) rfl ⟨rfl, gg⟩
theorem ym {x : Bd} {s : Sh} {k n cb lb gs os cs : Nat} (hk : k < n) (h : okI x) (hs : Sin s) (w : World) (l0 : w.cell? ⟨lb, 0, none⟩ = some (.slice (some ⟨gs, os, none⟩) n cs)) (p0 : w.cell? ⟨gs, os + k * 2, none⟩ = some (.int .i64 s.1)) (p1 : w.cell? ⟨gs, os + k * 2 + 1, none⟩ = some (.int .i64 s.2)) : KEl 28 #[.pointer (some ⟨lb, 0, none⟩), .pointer (some ⟨cb, 0, none⟩)] (k : Int) x (mtB x s) (mtC x s) cb w := fun z c0 f0 => by
  have vb := vb_of h
  have pb := pb_of h
  have vx0 := vb.vx0; have vx1 := vb.vx1; have vy0 := vb.vy0; have vy1 := vb.vy1
  have px0 := pb.px0; have px1 := pb.px1; have py0 := pb.py0; have py1 := pb.py1
  have b1 := mtX_bd vb pb hs
  have b2 := mtY_bd vb pb hs
  have e2 : ((limW (mtX x s) != mtX x s) || (limW (mtY x s) != mtY x s)) = mtC x s := by
    unfold mtC
    rw [Bool.eq_iff_iff]
    simp [bne_iff_ne]
  have l1 := limW_bd (mtX x s)
  have l2 := limW_bd (mtY x s)
  exact ym1 (p := x.px + s.1) (q := x.py + s.2) (u := x.vx / 64) (v := x.vy / 64) (tx := mtX x s) (ty := mtY x s) (a := limW (mtX x s)) (b := limW (mtY x s)) hk (by rw [IntKind.wrap_i64]; omega) (by rw [IntKind.wrap_i64]; omega) (by rw [IntKind.wrap_i64]; show _ = x.px + s.1 + x.vx / 64; have : mtX x s = x.px + s.1 + x.vx / 64 := rfl; omega) (ktr (by rw [IntKind.wrap_i64]; omega)) (by rw [IntKind.wrap_i64]; omega) (by rw [IntKind.wrap_i64]; omega) (by rw [IntKind.wrap_i64]; show _ = x.py + s.2 + x.vy / 64; have : mtY x s = x.py + s.2 + x.vy / 64 := rfl; omega) (ktr (by rw [IntKind.wrap_i64]; omega))
    (klm ⟨by omega, by omega⟩ ⟨by omega, by omega⟩ (lim2 ⟨by omega, by omega⟩ (by decide) (by decide) rfl) (lim2 ⟨by omega, by omega⟩ (by decide) (by decide) rfl) e2) z w c0 f0 l0 p0 p1
theorem yp {x : Bd} {j k : Int} (h : okI x) (hj : -2147483648 ≤ j ∧ j < 2147483648) (hk : -2147483648 ≤ k ∧ k < 2147483648) : YPs x j k := fun w => by
  have vb := vb_of h
  have m0 := vb.m0; have m1 := vb.m1
  have vx0 := vb.vx0; have vx1 := vb.vx1; have vy0 := vb.vy0; have vy1 := vb.vy1
  have b1 := ps_bd hj ⟨m0, m1⟩ ⟨vx0, vx1⟩
  have b2 := ps_bd hk ⟨m0, m1⟩ ⟨vy0, vy1⟩
  have e2 : ((limJ (psX x j) != psX x j) || (limJ (psY x k) != psY x k)) = psC x j k := by
    unfold psC
    rw [Bool.eq_iff_iff]
    simp [bne_iff_ne]
  have l1 := limJ_bd (psX x j)
  have l2 := limJ_bd (psY x k)
  exact yp1 (u := j * x.m / 65536) (v := k * x.m / 65536) (tx := psX x j) (ty := psY x k) (a := limJ (psX x j)) (b := limJ (psY x k)) (by rw [IntKind.wrap_i64]; omega) (by rw [IntKind.wrap_i64]; unfold psX; omega) (kgn (by rw [IntKind.wrap_i64]; omega) (by rw [IntKind.wrap_i64]; omega) (by rw [IntKind.wrap_i64]; omega)) (by rw [IntKind.wrap_i64]; omega) (by rw [IntKind.wrap_i64]; unfold psY; omega) (kgn (by rw [IntKind.wrap_i64]; omega) (by rw [IntKind.wrap_i64]; omega) (by rw [IntKind.wrap_i64]; omega))
    (klm ⟨by omega, by omega⟩ ⟨by omega, by omega⟩ (lim2 ⟨by unfold psX; omega, by unfold psX; omega⟩ (by decide) (by decide) rfl) (lim2 ⟨by unfold psY; omega, by unfold psY; omega⟩ (by decide) (by decide) rfl) e2) w
end Go.Proofs.Ytlabeelbbkbkaaa
