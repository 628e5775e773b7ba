import Derived.Test.YtaknmlohnifcdaaGreatDoorMImpCon
import Derived.Test.YtaknmlohnifcdaaGreatDoorJ03MRootArith
import Derived.Test.YtaknmlohnifcdaaGreatDoorJ02MSeq
import Derived.Deep.DeepCutAuto
import Derived.Deep.QuietTactic
import Derived.BigQuiet
set_option maxHeartbeats 2000000
set_option maxRecDepth 100000
namespace Go.Proofs.YtaknmlohnifcdaaGreatDoor
open Go.RowKit Go.Lib

abbrev KDt (a b c d t : Int) : Prop := ∀ w, Calls Tryz.prog 190 #[.agg #[.int .i32 a, .int .i32 b], .agg #[.int .i32 c, .int .i32 d]] w fun e w' => e = .returned (.int .i64 t) ∧ Kep w.heap.size w w'
abbrev KMd (a b c t e : Int) : Prop := ∀ w, Calls Tryz.prog 81 #[.int .i64 a, .int .i64 b, .int .i64 c] w fun f w' => f = .returned (.tuple #[.int .i64 t, .int .i64 e]) ∧ Kep w.heap.size w w'
abbrev KMs (a b t e : Int) : Prop := ∀ w, Calls Tryz.prog 80 #[.int .i64 a, .int .i64 b, .int .i64 16] w fun f w' => f = .returned (.tuple #[.int .i64 t, .int .i64 e]) ∧ Kep w.heap.size w w'
theorem fl_div {n c : Int} (h : 0 < c) : fl n c = n / c := if_neg (by omega)
theorem iap {lo hi nx ny dp p q s t : Int} {x y : Bd} (X1 : KDt nx ny y.vx y.vy p) (X2 : KDt nx ny x.vx x.vy q) (h1 : IntKind.i64.wrap (p - q) = s) (h2 : s / 65536 = t) : IAp lo hi nx ny dp x y t := fun w => by
 have C1 := Lib.hid X1
 have C2 := Lib.hid X2
 clear X1 X2
 go_enter Tryz.func158, Tryz.ntmps158
 go_upto_region 1 with fail
 generalize hW : World.alloc (World.alloc (World.alloc w _) _) _ = W1
 have Zc : ZC W1 (w.heap.size) [.int .u32 lo, .int .u32 hi, .int .i32 nx, .int .i32 ny, .int .i32 dp] := by rw [← hW]; exact (ZC.more (ZC.more (zc_new' _ _ _ (by first | rfl | simp)) _) _)
 have Zx : ZC W1 (w.heap.size + 1) [.int .u32 x.k, .int .i32 x.r, .int .i32 x.ax, .int .i32 x.ay, .int .i32 x.m, .int .i32 x.o, .int .i32 x.px, .int .i32 x.py, .int .i32 x.vx, .int .i32 x.vy] := by rw [← hW]; exact (ZC.more (zc_new' _ _ _ (by first | rfl | simp)) _)
 have Zy : ZC W1 (w.heap.size + 1 + 1) [.int .u32 y.k, .int .i32 y.r, .int .i32 y.ax, .int .i32 y.ay, .int .i32 y.m, .int .i32 y.o, .int .i32 y.px, .int .i32 y.py, .int .i32 y.vx, .int .i32 y.vy] := by rw [← hW]; exact (zc_new' _ _ _ (by first | rfl | simp))
 have gg : Kep w.heap.size w W1 := by rw [← hW]; exact (kep_more (kep_more (kep_more (Kep.refl _ _) _) _) _)
 clear hW
 refine wp_region_noPanic ?_
 refine wp_region_held_drew (S := (fun w' => ZC w' (w.heap.size) [.int .u32 lo, .int .u32 hi, .int .i32 nx, .int .i32 ny, .int .i32 dp] ∧ ZC w' (w.heap.size + 1) [.int .u32 x.k, .int .i32 x.r, .int .i32 x.ax, .int .i32 x.ay, .int .i32 x.m, .int .i32 x.o, .int .i32 x.px, .int .i32 x.py, .int .i32 x.vx, .int .i32 x.vy] ∧ ZC w' (w.heap.size + 1 + 1) [.int .u32 y.k, .int .i32 y.r, .int .i32 y.ax, .int .i32 y.ay, .int .i32 y.m, .int .i32 y.o, .int .i32 y.px, .int .i32 y.py, .int .i32 y.vx, .int .i32 y.vy] ∧ Kep w.heap.size w w')) (by kernel_rfl) (⟨Zc.drew, Zx.drew, Zy.drew, kep_drew gg⟩) (fun hH => ?_)
 clear Zc Zx Zy gg
 refine wpAnyH_take (i := 0) (oi := { dst := some 7, op := Op.fieldAddr 77 (Operand.tmp 3) 1, type := _, pos := _, after := _, guard := none }) (v := ?_) rfl (by kernel_rfl) (by kernel_rfl) (by kernel_rfl) (fun _ _ _ h => h) (Or.inl ⟨by rfl, ?_⟩) hH ?_
 rotate_left
 ·(intro wq hSw; (try dsimp only at hSw); go_simp; (try with_reducible rfl))
 try simp only [Act.put, List.setIfInBounds_toArray, List.set_cons_zero, List.set_cons_succ]
 refine wpAnyH_take (i := 1) (oi := { dst := some 8, op := Op.load 38 (Operand.tmp 7), type := _, pos := _, after := _, guard := none }) (v := ?_) rfl (by kernel_rfl) (by kernel_rfl) (by kernel_rfl) (fun _ _ _ h => h) (Or.inl ⟨by rfl, ?_⟩) hH ?_
 rotate_left
 ·(intro wq hSw; (try dsimp only at hSw); obtain ⟨Zc, Zx, Zy, -⟩ := hSw; replace Zc := za_of Zc; replace Zx := za_of Zx; replace Zy := za_of Zy; go_simp; (try with_reducible rfl))
 try simp only [Act.put, List.setIfInBounds_toArray, List.set_cons_zero, List.set_cons_succ]
 refine wpAnyH_take (i := 2) (oi := { dst := some 9, op := Op.fieldAddr 40 (Operand.tmp 5) 6, type := _, pos := _, after := _, guard := none }) (v := ?_) rfl (by kernel_rfl) (by kernel_rfl) (by kernel_rfl) (fun _ _ _ h => h) (Or.inl ⟨by rfl, ?_⟩) hH ?_
 rotate_left
 ·(intro wq hSw; (try dsimp only at hSw); go_simp; (try with_reducible rfl))
 try simp only [Act.put, List.setIfInBounds_toArray, List.set_cons_zero, List.set_cons_succ]
 refine wpAnyH_take (i := 3) (oi := { dst := some 10, op := Op.load 38 (Operand.tmp 9), type := _, pos := _, after := _, guard := none }) (v := ?_) rfl (by kernel_rfl) (by kernel_rfl) (by kernel_rfl) (fun _ _ _ h => h) (Or.inl ⟨by rfl, ?_⟩) hH ?_
 rotate_left
 ·(intro wq hSw; (try dsimp only at hSw); obtain ⟨Zc, Zx, Zy, -⟩ := hSw; replace Zc := za_of Zc; replace Zx := za_of Zx; replace Zy := za_of Zy; go_simp; (try with_reducible rfl))
 try simp only [Act.put, List.setIfInBounds_toArray, List.set_cons_zero, List.set_cons_succ]
 refine wpAnyH_take (i := 5) (oi := { dst := some 12, op := Op.fieldAddr 77 (Operand.tmp 3) 1, type := _, pos := _, after := _, guard := none }) (v := ?_) rfl (by kernel_rfl) (by kernel_rfl) (by kernel_rfl) (fun _ _ _ h => h) (Or.inl ⟨by rfl, ?_⟩) hH ?_
 rotate_left
 ·(intro wq hSw; (try dsimp only at hSw); go_simp; (try with_reducible rfl))
 try simp only [Act.put, List.setIfInBounds_toArray, List.set_cons_zero, List.set_cons_succ]
 refine wpAnyH_take (i := 6) (oi := { dst := some 13, op := Op.load 38 (Operand.tmp 12), type := _, pos := _, after := _, guard := none }) (v := ?_) rfl (by kernel_rfl) (by kernel_rfl) (by kernel_rfl) (fun _ _ _ h => h) (Or.inl ⟨by rfl, ?_⟩) hH ?_
 rotate_left
 ·(intro wq hSw; (try dsimp only at hSw); obtain ⟨Zc, Zx, Zy, -⟩ := hSw; replace Zc := za_of Zc; replace Zx := za_of Zx; replace Zy := za_of Zy; go_simp; (try with_reducible rfl))
 try simp only [Act.put, List.setIfInBounds_toArray, List.set_cons_zero, List.set_cons_succ]
 refine wpAnyH_take (i := 7) (oi := { dst := some 14, op := Op.fieldAddr 40 (Operand.tmp 4) 6, type := _, pos := _, after := _, guard := none }) (v := ?_) rfl (by kernel_rfl) (by kernel_rfl) (by kernel_rfl) (fun _ _ _ h => h) (Or.inl ⟨by rfl, ?_⟩) hH ?_
 rotate_left
 ·(intro wq hSw; (try dsimp only at hSw); go_simp; (try with_reducible rfl))
 try simp only [Act.put, List.setIfInBounds_toArray, List.set_cons_zero, List.set_cons_succ]
 refine wpAnyH_take (i := 8) (oi := { dst := some 15, op := Op.load 38 (Operand.tmp 14), type := _, pos := _, after := _, guard := none }) (v := ?_) rfl (by kernel_rfl) (by kernel_rfl) (by kernel_rfl) (fun _ _ _ h => h) (Or.inl ⟨by rfl, ?_⟩) hH ?_
 rotate_left
 ·(intro wq hSw; (try dsimp only at hSw); obtain ⟨Zc, Zx, Zy, -⟩ := hSw; replace Zc := za_of Zc; replace Zx := za_of Zx; replace Zy := za_of Zy; go_simp; (try with_reducible rfl))
 try simp only [Act.put, List.setIfInBounds_toArray, List.set_cons_zero, List.set_cons_succ]
 refine sC 4 (fun K hK => ?_)
 go_simp
 (with_reducible refine (C1.out _).mono ?_); rintro e v1_4 ⟨rfl, g⟩
 refine hK.out _ _ (by (try dsimp only); obtain ⟨Zc, Zx, Zy, gg⟩ := id hH; exact ⟨Zc.kep g, Zx.kep g, Zy.kep g, kep_next gg g⟩) (fun hH2 => ?_)
 clear hK K hH; have hH := hH2; clear hH2
 try simp only [Act.put, List.setIfInBounds_toArray, List.set_cons_zero, List.set_cons_succ]
 refine sC 9 (fun K hK => ?_)
 go_simp
 (with_reducible refine (C2.out _).mono ?_); rintro e v1_9 ⟨rfl, g⟩
 refine hK.out _ _ (by (try dsimp only); obtain ⟨Zc, Zx, Zy, gg⟩ := id hH; exact ⟨Zc.kep g, Zx.kep g, Zy.kep g, kep_next gg g⟩) (fun hH2 => ?_)
 clear hK K hH; have hH := hH2; clear hH2
 try simp only [Act.put, List.setIfInBounds_toArray, List.set_cons_zero, List.set_cons_succ]
 refine wpAnyH_take (i := 10) (oi := { dst := some 17, op := Op.binOp BinOp.sub 2 (Operand.tmp 11) (Operand.tmp 16) 2, type := _, pos := _, after := _, guard := none }) (v := ?_) rfl (by kernel_rfl) (by kernel_rfl) (by kernel_rfl) (fun _ _ _ h => h) (Or.inl ⟨by rfl, ?_⟩) hH ?_
 rotate_left
 ·(intro wq hSw; (try dsimp only at hSw); go_simp; (try with_reducible rfl))
 try simp only [Act.put, List.setIfInBounds_toArray, List.set_cons_zero, List.set_cons_succ]
 refine wpAnyH_take (i := 11) (oi := { dst := some 18, op := Op.binOp BinOp.shr 2 (Operand.tmp 17) (Operand.const (Value.int IntKind.u64 16)) 131, type := _, pos := _, after := _, guard := none }) (v := ?_) rfl (by kernel_rfl) (by kernel_rfl) (by kernel_rfl) (fun _ _ _ h => h) (Or.inl ⟨by rfl, ?_⟩) hH ?_
 rotate_left
 ·(intro wq hSw; (try dsimp only at hSw); go_simp; (try with_reducible rfl))
 try simp only [Act.put, List.setIfInBounds_toArray, List.set_cons_zero, List.set_cons_succ]
 refine wpAnyH_take (i := 12) (oi := { dst := some 6, op := Op.assign (Operand.tmp 18), type := _, pos := _, after := _, guard := none }) (v := ?_) rfl (by kernel_rfl) (by kernel_rfl) (by kernel_rfl) (fun _ _ _ h => h) (Or.inl ⟨by rfl, ?_⟩) hH ?_
 rotate_left
 ·(intro wq hSw; (try dsimp only at hSw); go_simp; (try with_reducible rfl))
 try simp only [Act.put, List.setIfInBounds_toArray, List.set_cons_zero, List.set_cons_succ]
 refine sE ?_
 obtain ⟨Zc, Zx, Zy, gg⟩ := hH
 go_wp2_with fail
 go_ret
 exact ⟨rfl, gg⟩
theorem ibn {x y : Bd} {t : Int} (h1 : max x.o y.o = t) : IBn x y t := fun w => by
 go_enter Tryz.func159, Tryz.ntmps159
 go_wp2_with fail
 go_ret
 exact ⟨rfl, (kep_more (kep_more (Kep.refl _ _) _) _)⟩
theorem ist0 {lo hi nx ny dp v : Int} {x y : Bd} (X1 : IAp lo hi nx ny dp x y v) (h1 : 0 ≤ v) : ISt lo hi nx ny dp x y 0 := fun w => by
 have C1 := Lib.hid X1
 clear X1
 have d1 : decide (0 ≤ v) = true := decide_eq_true h1
 clear h1
 go_enter Tryz.func125, Tryz.ntmps125
 go_wp2_with (first
  | ((with_reducible refine (C1.out _).mono ?_); rintro e w1 ⟨rfl, g1⟩
     have gg := kep_next (kep_more (kep_more (kep_more (Kep.refl _ _) _) _) _) g1
     have Zc : ZC w1 (w.heap.size) [.int .u32 lo, .int .u32 hi, .int .i32 nx, .int .i32 ny, .int .i32 dp] := ZC.kep (ZC.more (ZC.more (zc_new' _ _ _ (by first | rfl | simp)) _) _) g1
     have Zx : ZC w1 (w.heap.size + 1) [.int .u32 x.k, .int .i32 x.r, .int .i32 x.ax, .int .i32 x.ay, .int .i32 x.m, .int .i32 x.o, .int .i32 x.px, .int .i32 x.py, .int .i32 x.vx, .int .i32 x.vy] := ZC.kep (ZC.more (zc_new' _ _ _ (by first | rfl | simp)) _) g1
     have Zy : ZC w1 (w.heap.size + 1 + 1) [.int .u32 y.k, .int .i32 y.r, .int .i32 y.ax, .int .i32 y.ay, .int .i32 y.m, .int .i32 y.o, .int .i32 y.px, .int .i32 y.py, .int .i32 y.vx, .int .i32 y.vy] := ZC.kep (zc_new' _ _ _ (by first | rfl | simp)) g1))
 go_ret
 exact ⟨rfl, gg⟩
theorem ist1 {lo hi nx ny dp v : Int} {x y : Bd} (X1 : IAp lo hi nx ny dp x y v) {u b f M t e : Int} (h1 : ¬ 0 ≤ v) (X2 : IBn x y b) (hu : IntKind.i64.wrap (-v) = u) (hb : IntKind.i64.wrap b = b) (hf : IntKind.i64.wrap (65536 + b) = f) (hm : IntKind.i64.wrap x.m = x.m) (hn : IntKind.i64.wrap y.m = y.m) (hM : IntKind.i64.wrap (x.m + y.m) = M) (X3 : KMd u f M t e) : ISt lo hi nx ny dp x y t := fun w => by
 have C1 := Lib.hid X1
 have C2 := Lib.hid X2
 have C3 := Lib.hid X3
 have d1 : decide (0 ≤ v) = false := decide_eq_false h1
 clear X1 X2 X3 h1
 go_enter Tryz.func125, Tryz.ntmps125
 go_upto_region 4 with (first
  | ((with_reducible refine (C1.out _).mono ?_); rintro e w1 ⟨rfl, g1⟩
     have gg := kep_next (kep_more (kep_more (kep_more (Kep.refl _ _) _) _) _) g1
     have Zc : ZC w1 (w.heap.size) [.int .u32 lo, .int .u32 hi, .int .i32 nx, .int .i32 ny, .int .i32 dp] := ZC.kep (ZC.more (ZC.more (zc_new' _ _ _ (by first | rfl | simp)) _) _) g1
     have Zx : ZC w1 (w.heap.size + 1) [.int .u32 x.k, .int .i32 x.r, .int .i32 x.ax, .int .i32 x.ay, .int .i32 x.m, .int .i32 x.o, .int .i32 x.px, .int .i32 x.py, .int .i32 x.vx, .int .i32 x.vy] := ZC.kep (ZC.more (zc_new' _ _ _ (by first | rfl | simp)) _) g1
     have Zy : ZC w1 (w.heap.size + 1 + 1) [.int .u32 y.k, .int .i32 y.r, .int .i32 y.ax, .int .i32 y.ay, .int .i32 y.m, .int .i32 y.o, .int .i32 y.px, .int .i32 y.py, .int .i32 y.vx, .int .i32 y.vy] := ZC.kep (zc_new' _ _ _ (by first | rfl | simp)) g1))
 refine wp_region_noPanic ?_
 refine wp_region_held_drew (S := (fun w' => ZC w' (w.heap.size) [.int .u32 lo, .int .u32 hi, .int .i32 nx, .int .i32 ny, .int .i32 dp] ∧ ZC w' (w.heap.size + 1) [.int .u32 x.k, .int .i32 x.r, .int .i32 x.ax, .int .i32 x.ay, .int .i32 x.m, .int .i32 x.o, .int .i32 x.px, .int .i32 x.py, .int .i32 x.vx, .int .i32 x.vy] ∧ ZC w' (w.heap.size + 1 + 1) [.int .u32 y.k, .int .i32 y.r, .int .i32 y.ax, .int .i32 y.ay, .int .i32 y.m, .int .i32 y.o, .int .i32 y.px, .int .i32 y.py, .int .i32 y.vx, .int .i32 y.vy] ∧ Kep w.heap.size w w')) (by kernel_rfl) (⟨Zc.drew, Zx.drew, Zy.drew, kep_drew gg⟩) (fun hH => ?_)
 clear Zc Zx Zy gg
 refine wpAnyH_take (i := 0) (oi := { dst := some 17, op := Op.move (Operand.tmp 7), type := _, pos := _, after := _, guard := none }) (v := ?_) rfl (by kernel_rfl) (by kernel_rfl) (by kernel_rfl) (fun _ _ _ h => h) (Or.inl ⟨by rfl, ?_⟩) hH ?_
 rotate_left
 ·(intro wq hSw; (try dsimp only at hSw); go_simp; (try with_reducible rfl))
 try simp only [Act.put, List.setIfInBounds_toArray, List.set_cons_zero, List.set_cons_succ]
 refine wpAnyH_take (i := 1) (oi := { dst := some 18, op := Op.unOp UnOp.neg 2 (Operand.tmp 17), type := _, pos := _, after := _, guard := none }) (v := ?_) rfl (by kernel_rfl) (by kernel_rfl) (by kernel_rfl) (fun _ _ _ h => h) (Or.inl ⟨by rfl, ?_⟩) hH ?_
 rotate_left
 ·(intro wq hSw; (try dsimp only at hSw); go_simp; (try with_reducible rfl))
 try simp only [Act.put, List.setIfInBounds_toArray, List.set_cons_zero, List.set_cons_succ]
 refine wpAnyH_take (i := 2) (oi := { dst := some 19, op := Op.load 40 (Operand.tmp 4), type := _, pos := _, after := _, guard := none }) (v := ?_) rfl (by kernel_rfl) (by kernel_rfl) (by kernel_rfl) (fun _ _ _ h => h) (Or.inl ⟨by rfl, ?_⟩) hH ?_
 rotate_left
 ·(intro wq hSw; (try dsimp only at hSw); obtain ⟨Zc, Zx, Zy, -⟩ := hSw; replace Zc := za_of Zc; replace Zx := za_of Zx; replace Zy := za_of Zy; go_simp; (try with_reducible rfl))
 try simp only [Act.put, List.setIfInBounds_toArray, List.set_cons_zero, List.set_cons_succ]
 refine wpAnyH_take (i := 3) (oi := { dst := some 20, op := Op.load 40 (Operand.tmp 5), type := _, pos := _, after := _, guard := none }) (v := ?_) rfl (by kernel_rfl) (by kernel_rfl) (by kernel_rfl) (fun _ _ _ h => h) (Or.inl ⟨by rfl, ?_⟩) hH ?_
 rotate_left
 ·(intro wq hSw; (try dsimp only at hSw); obtain ⟨Zc, Zx, Zy, -⟩ := hSw; replace Zc := za_of Zc; replace Zx := za_of Zx; replace Zy := za_of Zy; go_simp; (try with_reducible rfl))
 try simp only [Act.put, List.setIfInBounds_toArray, List.set_cons_zero, List.set_cons_succ]
 refine wpAnyH_take (i := 7) (oi := { dst := some 24, op := Op.fieldAddr 40 (Operand.tmp 4) 3, type := _, pos := _, after := _, guard := none }) (v := ?_) rfl (by kernel_rfl) (by kernel_rfl) (by kernel_rfl) (fun _ _ _ h => h) (Or.inl ⟨by rfl, ?_⟩) hH ?_
 rotate_left
 ·(intro wq hSw; (try dsimp only at hSw); go_simp; (try with_reducible rfl))
 try simp only [Act.put, List.setIfInBounds_toArray, List.set_cons_zero, List.set_cons_succ]
 refine wpAnyH_take (i := 8) (oi := { dst := some 25, op := Op.load 21 (Operand.tmp 24), type := _, pos := _, after := _, guard := none }) (v := ?_) rfl (by kernel_rfl) (by kernel_rfl) (by kernel_rfl) (fun _ _ _ h => h) (Or.inl ⟨by rfl, ?_⟩) hH ?_
 rotate_left
 ·(intro wq hSw; (try dsimp only at hSw); obtain ⟨Zc, Zx, Zy, -⟩ := hSw; replace Zc := za_of Zc; replace Zx := za_of Zx; replace Zy := za_of Zy; go_simp; (try with_reducible rfl))
 try simp only [Act.put, List.setIfInBounds_toArray, List.set_cons_zero, List.set_cons_succ]
 refine wpAnyH_take (i := 9) (oi := { dst := some 26, op := Op.convert 21 2 (Operand.tmp 25), type := _, pos := _, after := _, guard := none }) (v := ?_) rfl (by kernel_rfl) (by kernel_rfl) (by kernel_rfl) (fun _ _ _ h => h) (Or.inl ⟨by rfl, ?_⟩) hH ?_
 rotate_left
 ·(intro wq hSw; (try dsimp only at hSw); go_simp; (try with_reducible rfl))
 try simp only [Act.put, List.setIfInBounds_toArray, List.set_cons_zero, List.set_cons_succ]
 refine wpAnyH_take (i := 10) (oi := { dst := some 27, op := Op.fieldAddr 40 (Operand.tmp 5) 3, type := _, pos := _, after := _, guard := none }) (v := ?_) rfl (by kernel_rfl) (by kernel_rfl) (by kernel_rfl) (fun _ _ _ h => h) (Or.inl ⟨by rfl, ?_⟩) hH ?_
 rotate_left
 ·(intro wq hSw; (try dsimp only at hSw); go_simp; (try with_reducible rfl))
 try simp only [Act.put, List.setIfInBounds_toArray, List.set_cons_zero, List.set_cons_succ]
 refine wpAnyH_take (i := 11) (oi := { dst := some 28, op := Op.load 21 (Operand.tmp 27), type := _, pos := _, after := _, guard := none }) (v := ?_) rfl (by kernel_rfl) (by kernel_rfl) (by kernel_rfl) (fun _ _ _ h => h) (Or.inl ⟨by rfl, ?_⟩) hH ?_
 rotate_left
 ·(intro wq hSw; (try dsimp only at hSw); obtain ⟨Zc, Zx, Zy, -⟩ := hSw; replace Zc := za_of Zc; replace Zx := za_of Zx; replace Zy := za_of Zy; go_simp; (try with_reducible rfl))
 try simp only [Act.put, List.setIfInBounds_toArray, List.set_cons_zero, List.set_cons_succ]
 refine wpAnyH_take (i := 12) (oi := { dst := some 29, op := Op.convert 21 2 (Operand.tmp 28), type := _, pos := _, after := _, guard := none }) (v := ?_) rfl (by kernel_rfl) (by kernel_rfl) (by kernel_rfl) (fun _ _ _ h => h) (Or.inl ⟨by rfl, ?_⟩) hH ?_
 rotate_left
 ·(intro wq hSw; (try dsimp only at hSw); go_simp; (try with_reducible rfl))
 try simp only [Act.put, List.setIfInBounds_toArray, List.set_cons_zero, List.set_cons_succ]
 refine wpAnyH_take (i := 13) (oi := { dst := some 30, op := Op.binOp BinOp.add 2 (Operand.tmp 26) (Operand.tmp 29) 2, type := _, pos := _, after := _, guard := none }) (v := ?_) rfl (by kernel_rfl) (by kernel_rfl) (by kernel_rfl) (fun _ _ _ h => h) (Or.inl ⟨by rfl, ?_⟩) hH ?_
 rotate_left
 ·(intro wq hSw; (try dsimp only at hSw); go_simp; (try with_reducible rfl))
 try simp only [Act.put, List.setIfInBounds_toArray, List.set_cons_zero, List.set_cons_succ]
 refine sC 4 (fun K hK => ?_)
 go_simp
 (with_reducible refine (C2.out _).mono ?_); rintro e v4_4 ⟨rfl, g⟩
 refine hK.out _ _ (by (try dsimp only); obtain ⟨Zc, Zx, Zy, gg⟩ := id hH; exact ⟨Zc.kep g, Zx.kep g, Zy.kep g, kep_next gg g⟩) (fun hH2 => ?_)
 clear hK K hH; have hH := hH2; clear hH2
 try simp only [Act.put, List.setIfInBounds_toArray, List.set_cons_zero, List.set_cons_succ]
 refine wpAnyH_take (i := 5) (oi := { dst := some 22, op := Op.convert 21 2 (Operand.tmp 21), type := _, pos := _, after := _, guard := none }) (v := ?_) rfl (by kernel_rfl) (by kernel_rfl) (by kernel_rfl) (fun _ _ _ h => h) (Or.inl ⟨by rfl, ?_⟩) hH ?_
 rotate_left
 ·(intro wq hSw; (try dsimp only at hSw); go_simp; (try with_reducible rfl))
 try simp only [Act.put, List.setIfInBounds_toArray, List.set_cons_zero, List.set_cons_succ]
 refine wpAnyH_take (i := 6) (oi := { dst := some 23, op := Op.binOp BinOp.add 2 (Operand.const (Value.int IntKind.i64 65536)) (Operand.tmp 22) 2, type := _, pos := _, after := _, guard := none }) (v := ?_) rfl (by kernel_rfl) (by kernel_rfl) (by kernel_rfl) (fun _ _ _ h => h) (Or.inl ⟨by rfl, ?_⟩) hH ?_
 rotate_left
 ·(intro wq hSw; (try dsimp only at hSw); go_simp; (try with_reducible rfl))
 try simp only [Act.put, List.setIfInBounds_toArray, List.set_cons_zero, List.set_cons_succ]
 refine sC 14 (fun K hK => ?_)
 go_simp
 (with_reducible refine (C3.out _).mono ?_); rintro e v4_14 ⟨rfl, g⟩
 refine hK.out _ _ (by (try dsimp only); obtain ⟨Zc, Zx, Zy, gg⟩ := id hH; exact ⟨Zc.kep g, Zx.kep g, Zy.kep g, kep_next gg g⟩) (fun hH2 => ?_)
 clear hK K hH; have hH := hH2; clear hH2
 try simp only [Act.put, List.setIfInBounds_toArray, List.set_cons_zero, List.set_cons_succ]
 refine wpAnyH_take (i := 15) (oi := { dst := some 16, op := Op.move (Operand.tmp 31), type := _, pos := _, after := _, guard := none }) (v := ?_) rfl (by kernel_rfl) (by kernel_rfl) (by kernel_rfl) (fun _ _ _ h => h) (Or.inl ⟨by rfl, ?_⟩) hH ?_
 rotate_left
 ·(intro wq hSw; (try dsimp only at hSw); go_simp; (try with_reducible rfl))
 try simp only [Act.put, List.setIfInBounds_toArray, List.set_cons_zero, List.set_cons_succ]
 refine wpAnyH_take (i := 16) (oi := { dst := some 32, op := Op.extract (Operand.tmp 16) 0, type := _, pos := _, after := _, guard := none }) (v := ?_) rfl (by kernel_rfl) (by kernel_rfl) (by kernel_rfl) (fun _ _ _ h => h) (Or.inl ⟨by rfl, ?_⟩) hH ?_
 rotate_left
 ·(intro wq hSw; (try dsimp only at hSw); go_simp; (try with_reducible rfl))
 try simp only [Act.put, List.setIfInBounds_toArray, List.set_cons_zero, List.set_cons_succ]
 refine wpAnyH_take (i := 17) (oi := { dst := some 33, op := Op.extract (Operand.tmp 16) 1, type := _, pos := _, after := _, guard := none }) (v := ?_) rfl (by kernel_rfl) (by kernel_rfl) (by kernel_rfl) (fun _ _ _ h => h) (Or.inl ⟨by rfl, ?_⟩) hH ?_
 rotate_left
 ·(intro wq hSw; (try dsimp only at hSw); go_simp; (try with_reducible rfl))
 try simp only [Act.put, List.setIfInBounds_toArray, List.set_cons_zero, List.set_cons_succ]
 refine wpAnyH_take (i := 18) (oi := { dst := some 8, op := Op.assign (Operand.tmp 32), type := _, pos := _, after := _, guard := none }) (v := ?_) rfl (by kernel_rfl) (by kernel_rfl) (by kernel_rfl) (fun _ _ _ h => h) (Or.inl ⟨by rfl, ?_⟩) hH ?_
 rotate_left
 ·(intro wq hSw; (try dsimp only at hSw); go_simp; (try with_reducible rfl))
 try simp only [Act.put, List.setIfInBounds_toArray, List.set_cons_zero, List.set_cons_succ]
 refine wpAnyH_take (i := 19) (oi := { dst := some 9, op := Op.assign (Operand.tmp 33), type := _, pos := _, after := _, guard := none }) (v := ?_) rfl (by kernel_rfl) (by kernel_rfl) (by kernel_rfl) (fun _ _ _ h => h) (Or.inl ⟨by rfl, ?_⟩) hH ?_
 rotate_left
 ·(intro wq hSw; (try dsimp only at hSw); go_simp; (try with_reducible rfl))
 try simp only [Act.put, List.setIfInBounds_toArray, List.set_cons_zero, List.set_cons_succ]
 refine sE ?_
 obtain ⟨Zc, Zx, Zy, gg⟩ := hH
 go_wp2_with fail
 go_ret
 exact ⟨rfl, gg⟩
abbrev KAl (k c t : Int) : Prop := ∀ (a : Addr) w, w.cell? a = some (.int .i64 k) → Calls Tryz.prog 191 #[.int .i32 c, .pointer (some a)] w fun e w' => e = .returned (.int .i64 t) ∧ Kep w.heap.size w w'
theorem ial {k c t e : Int} (hc : IntKind.i64.wrap c = c) (X1 : KMs k c t e) : KAl k c t := fun a w ca => by
 have C1 := Lib.hid X1
 clear X1
 go_enter Tryz.func191, Tryz.ntmps191
 go_wp2_with ((with_reducible refine (C1.out _).mono ?_); rintro e w1 ⟨rfl, g1⟩)
 go_ret
 exact ⟨rfl, g1⟩
theorem ich {j i nx ny k e p q : Int} (hi : IntKind.i64.wrap i = i) (X1 : KMs j i k e) (X2 : KAl k nx p) (X3 : KAl k ny q) : ICh j i nx ny p q := fun w => by
 have C1 := Lib.hid X1
 have C2 := Lib.hid X2
 have C3 := Lib.hid X3
 clear X1 X2 X3
 have hmf : ∀ (fn : Fn) (first cap : Array Value) (w : World), (Instr.makeFunc fn first cap).run Tryz.prog w = .ok (.func fn first cap) w := fun _ _ _ _ => rfl
 go_enter Tryz.func160, Tryz.ntmps160
 go_upto_region 3 with (first
  | ((with_reducible refine (C1.out _).mono ?_); rintro e w1 ⟨rfl, g1⟩
     have zQ := zK g1 (b := w.heap.size) (vs := [.int .i32 nx, .int .i32 ny])
     have n0 := zI zQ 0
     have n1 := zI zQ 1
     clear zQ
     have gg := kep_next (kep_more (Kep.refl _ _) _) g1
     have zn_w1 : w.heap.size < w1.heap.size := World.block_lt_of_cell? _ _ n0))
 generalize hW : World.alloc w1 _ = W2
 replace n0 : W2.cell? ⟨w.heap.size, 0, none⟩ = some (.int .i32 nx) := by rw [← hW]; exact Kep.all (kep_more (Kep.refl _ _) _) n0
 replace n1 : W2.cell? ⟨w.heap.size, 1, none⟩ = some (.int .i32 ny) := by rw [← hW]; exact Kep.all (kep_more (Kep.refl _ _) _) n1
 have hk0 : W2.cell? ⟨w1.heap.size, 0, none⟩ = some (.int .i64 k) := by
  rw [← hW]
  (repeat (first | rw [World.cell?_drew] | rw [World.cell?_alloc_past _ _ _ (by first | (simp; done) | (simp; omega))])); rw [World.cell?_alloc_at _ _ _ _ (by simp)]; rfl
 replace gg : Kep w.heap.size w W2 := by rw [← hW]; exact kep_more gg _
 clear hW
 refine wp_region_noPanic ?_
 refine wp_region_held_drew (S := (fun w' => w'.cell? ⟨w.heap.size, 0, none⟩ = some (.int .i32 nx) ∧ w'.cell? ⟨w.heap.size, 1, none⟩ = some (.int .i32 ny) ∧ w'.cell? ⟨w1.heap.size, 0, none⟩ = some (.int .i64 k) ∧ Kep w.heap.size w w')) (by kernel_rfl) (⟨by rw [World.cell?_drew]; exact n0, by rw [World.cell?_drew]; exact n1, by rw [World.cell?_drew]; exact hk0, kep_drew gg⟩) (fun hH => ?_)
 refine wpAnyH_take (i := 0) (oi := { dst := some 19, op := Op.move (Operand.tmp 10), type := _, pos := _, after := _, guard := none }) (v := ?_) rfl (by kernel_rfl) (by kernel_rfl) (by kernel_rfl) (fun _ _ _ h => h) (Or.inl ⟨by rfl, ?_⟩) hH ?_
 rotate_left
 ·(intro w hSw; (try dsimp only at hSw); go_simp; (try with_reducible rfl))
 try simp only [Act.put, List.setIfInBounds_toArray, List.set_cons_zero, List.set_cons_succ]
 refine wpAnyH_take (i := 1) (oi := { dst := some 20, op := Op.fieldAddr 38 (Operand.tmp 5) 0, type := _, pos := _, after := _, guard := none }) (v := ?_) rfl (by kernel_rfl) (by kernel_rfl) (by kernel_rfl) (fun _ _ _ h => h) (Or.inl ⟨by rfl, ?_⟩) hH ?_
 rotate_left
 ·(intro w hSw; (try dsimp only at hSw); go_simp; (try with_reducible rfl))
 try simp only [Act.put, List.setIfInBounds_toArray, List.set_cons_zero, List.set_cons_succ]
 refine wpAnyH_take (i := 2) (oi := { dst := some 21, op := Op.load 21 (Operand.tmp 20), type := _, pos := _, after := _, guard := none }) (v := ?_) rfl (by kernel_rfl) (by kernel_rfl) (by kernel_rfl) (fun _ _ _ h => h) (Or.inl ⟨by rfl, ?_⟩) hH ?_
 rotate_left
 ·(intro w hSw; (try dsimp only at hSw); go_simp; (try with_reducible rfl))
 try simp only [Act.put, List.setIfInBounds_toArray, List.set_cons_zero, List.set_cons_succ]
 refine wpAnyH_take (i := 4) (oi := { dst := some 23, op := Op.move (Operand.tmp 10), type := _, pos := _, after := _, guard := none }) (v := ?_) rfl (by kernel_rfl) (by kernel_rfl) (by kernel_rfl) (fun _ _ _ h => h) (Or.inl ⟨by rfl, ?_⟩) hH ?_
 rotate_left
 ·(intro w hSw; (try dsimp only at hSw); go_simp; (try with_reducible rfl))
 try simp only [Act.put, List.setIfInBounds_toArray, List.set_cons_zero, List.set_cons_succ]
 refine wpAnyH_take (i := 5) (oi := { dst := some 24, op := Op.fieldAddr 38 (Operand.tmp 5) 1, type := _, pos := _, after := _, guard := none }) (v := ?_) rfl (by kernel_rfl) (by kernel_rfl) (by kernel_rfl) (fun _ _ _ h => h) (Or.inl ⟨by rfl, ?_⟩) hH ?_
 rotate_left
 ·(intro w hSw; (try dsimp only at hSw); go_simp; (try with_reducible rfl))
 try simp only [Act.put, List.setIfInBounds_toArray, List.set_cons_zero, List.set_cons_succ]
 refine wpAnyH_take (i := 6) (oi := { dst := some 25, op := Op.load 21 (Operand.tmp 24), type := _, pos := _, after := _, guard := none }) (v := ?_) rfl (by kernel_rfl) (by kernel_rfl) (by kernel_rfl) (fun _ _ _ h => h) (Or.inl ⟨by rfl, ?_⟩) hH ?_
 rotate_left
 ·(intro w hSw; (try dsimp only at hSw); go_simp; (try with_reducible rfl))
 try simp only [Act.put, List.setIfInBounds_toArray, List.set_cons_zero, List.set_cons_succ]
 refine sC 3 (fun K hK => ?_)
 go_simp
 (with_reducible refine (C2.out _ _ (by go_split_ands; assumption)).mono ?_); rintro e v3_3 ⟨rfl, g⟩
 refine hK.out _ _ (by (try dsimp only); (go_split_ands; and_intros <;> first | exact g.all (by assumption) | exact kep_next (by assumption) g)) (fun hH2 => ?_)
 clear hK K hH; have hH := hH2; clear hH2
 try simp only [Act.put, List.setIfInBounds_toArray, List.set_cons_zero, List.set_cons_succ]
 refine sC 7 (fun K hK => ?_)
 go_simp
 (with_reducible refine (C3.out _ _ (by go_split_ands; assumption)).mono ?_); rintro e v3_7 ⟨rfl, g⟩
 refine hK.out _ _ (by (try dsimp only); (go_split_ands; and_intros <;> first | exact g.all (by assumption) | exact kep_next (by assumption) g)) (fun hH2 => ?_)
 clear hK K hH; have hH := hH2; clear hH2
 try simp only [Act.put, List.setIfInBounds_toArray, List.set_cons_zero, List.set_cons_succ]
 refine wpAnyH_take (i := 8) (oi := { dst := some 6, op := Op.assign (Operand.tmp 22), type := _, pos := _, after := _, guard := none }) (v := ?_) rfl (by kernel_rfl) (by kernel_rfl) (by kernel_rfl) (fun _ _ _ h => h) (Or.inl ⟨by rfl, ?_⟩) hH ?_
 rotate_left
 ·(intro w hSw; (try dsimp only at hSw); go_simp; (try with_reducible rfl))
 try simp only [Act.put, List.setIfInBounds_toArray, List.set_cons_zero, List.set_cons_succ]
 refine wpAnyH_take (i := 9) (oi := { dst := some 7, op := Op.assign (Operand.tmp 26), type := _, pos := _, after := _, guard := none }) (v := ?_) rfl (by kernel_rfl) (by kernel_rfl) (by kernel_rfl) (fun _ _ _ h => h) (Or.inl ⟨by rfl, ?_⟩) hH ?_
 rotate_left
 ·(intro w hSw; (try dsimp only at hSw); go_simp; (try with_reducible rfl))
 try simp only [Act.put, List.setIfInBounds_toArray, List.set_cons_zero, List.set_cons_succ]
 refine sE ?_
 clear n0 n1 hk0 gg
 obtain ⟨n0, n1, hk0, gg⟩ := hH
 go_wp2_with fail
 go_ret2
 exact ⟨rfl, gg⟩
theorem kdt {a b c d t : Int} (ha : I32 a) (hb : I32 b) (hc : I32 c) (hd : I32 d) (ht : a * c + b * d = t) (h1 : -9223372036854775808 ≤ t) (h2 : t < 9223372036854775808) : KDt a b c d t := fun w => kep_calls (dot4 ha hb hc hd ht h1 h2 w)
theorem kms {a b : Int} (ha : I64 a) (hb : I64 b) (h1 : -9223372036854775808 ≤ a * b / 65536) (h2 : a * b / 65536 < 9223372036854775808) : KMs a b (a * b / 65536) (mse a b 16) := fun w => by
 have e := msv_16 h1 h2
 have := kep_calls (mulshift_any a b 16 ha hb w)
 rw [e] at this
 exact this
theorem dot_bd {a b n m : Int} (h1 : -16777216 ≤ a) (h2 : a ≤ 16777216) (h3 : -16777216 ≤ b) (h4 : b ≤ 16777216) (h5 : Nr n) (h6 : Nr m) : -2199023255552 ≤ n * a + m * b ∧ n * a + m * b ≤ 2199023255552 := by
 have p := mul_bd h5 (b := a) (B := 16777216) ⟨h1, h2⟩
 have q := mul_bd h6 (b := b) (B := 16777216) ⟨h3, h4⟩
 omega
theorem iap_ok {lo hi nx ny dp : Int} {x y : Bd} (hx : Vb x) (hy : Vb y) (h1 : Nr nx) (h2 : Nr ny) : IAp lo hi nx ny dp x y (apI nx ny x y) := by
 have a := dot_bd hx.vx0 hx.vx1 hx.vy0 hx.vy1 h1 h2
 have b := dot_bd hy.vx0 hy.vx1 hy.vy0 hy.vy1 h1 h2
 have x0 := hx.vx0; have x1 := hx.vx1; have x2 := hx.vy0; have x3 := hx.vy1
 have y0 := hy.vx0; have y1 := hy.vx1; have y2 := hy.vy0; have y3 := hy.vy1
 have e : nx * y.vx + ny * y.vy - (nx * x.vx + ny * x.vy) = spI nx ny x y := by
  unfold spI
  rw [Int.sub_mul, Int.sub_mul, Int.mul_comm y.vx, Int.mul_comm x.vx, Int.mul_comm y.vy, Int.mul_comm x.vy]
  omega
 refine iap (kdt (by unfold I32; omega) (by unfold I32; omega) (by unfold I32; omega) (by unfold I32; omega) rfl (by omega) (by omega)) (kdt (by unfold I32; omega) (by unfold I32; omega) (by unfold I32; omega) (by unfold I32; omega) rfl (by omega) (by omega)) (s := spI nx ny x y) ?_ rfl
 rw [e, IntKind.wrap_i64]
 omega
theorem ist_ok {lo hi nx ny dp : Int} {x y : Bd} (hx : Vb x) (hy : Vb y) (h1 : Nr nx) (h2 : Nr ny) : ISt lo hi nx ny dp x y (stI nx ny x y) := by
 have C := iap_ok (lo := lo) (hi := hi) (dp := dp) hx hy h1 h2
 have a := ap_bd hx hy h1 h2
 have b := bn_bd hx hy
 have n := num_bd hx hy h1 h2
 have m0 := hx.m0; have m1 := hx.m1; have m2 := hy.m0; have m3 := hy.m1
 unfold stI
 by_cases c1 : 0 ≤ apI nx ny x y
 ·rw [if_pos (.inl c1)]
  exact ist0 C c1
 ·have n1 := n (by omega)
  have key : mdv (-(apI nx ny x y)) (65536 + bnI x y) (x.m + y.m) = if 0 ≤ apI nx ny x y ∨ x.m + y.m = 0 then 0 else -(apI nx ny x y) * (65536 + bnI x y) / (x.m + y.m) := by
   unfold mdv
   by_cases c2 : x.m + y.m = 0
   ·rw [if_pos c2, if_pos (.inr c2)]
   ·rw [if_neg c2, if_neg (by omega), fl_div (by omega)]
    have g := Int.ediv_nonneg (b := x.m + y.m) n1.1 (by omega)
    have g2 := Int.ediv_le_self (x.m + y.m) n1.1
    exact rv_i64 (by omega) (by omega)
  rw [← key]
  refine ist1 C c1 (ibn rfl) (u := -(apI nx ny x y)) (f := 65536 + bnI x y) (M := x.m + y.m) (by rw [IntKind.wrap_i64]; omega) (by rw [IntKind.wrap_i64]; unfold bnI at b; omega) (by rw [IntKind.wrap_i64]; unfold bnI at *; omega) (by rw [IntKind.wrap_i64]; omega) (by rw [IntKind.wrap_i64]; omega) (by rw [IntKind.wrap_i64]; omega) (fun w => kep_calls (muldiv_any _ _ _ (by unfold I64; omega) (by unfold I64; omega) (by unfold I64; omega) w))
theorem ich_ok {j i nx ny : Int} (hj : 0 ≤ j ∧ j ≤ 8796093022208) (hi : 0 ≤ i ∧ i ≤ 1048576) (h1 : Nr nx) (h2 : Nr ny) : ICh j i nx ny (chI j i nx) (chI j i ny) := by
 have hk := k_bd hj hi
 have c1 := ch_bd hk.2.2 h1
 have c2 := ch_bd hk.2.2 h2
 have al : ∀ {n : Int}, Nr n → (-140737488355328 ≤ j * i / 65536 * n / 65536 ∧ j * i / 65536 * n / 65536 ≤ 140737488355328) → KAl (j * i / 65536) n (chI j i n) := fun {n} h c => ial (by rw [IntKind.wrap_i64]; omega) (kms (by unfold I64; omega) (by unfold I64; omega) (by omega) (by omega))
 exact ich (by rw [IntKind.wrap_i64]; omega) (kms (by unfold I64; omega) (by unfold I64; omega) (by omega) (by omega)) (al h1 c1) (al h2 c2)
end Go.Proofs.YtaknmlohnifcdaaGreatDoor
