import Derived.Test.YtaknmlohnifcdaaGreatDoorJ22MCtsRef
import Derived.Test.YtaknmlohnifcdaaGreatDoorJ21MCorRef1
import Derived.Test.YtaknmlohnifcdaaGreatDoorJ02MSeq
import Derived.Deep.DeepCutAuto
import Derived.Deep.QuietTactic
import Derived.BigQuiet
import Derived.Test.YtaknmlohnifcdaaGreatDoorJ14MViewMath
import Derived.Test.YtaknmlohnifcdaaGreatDoorJ23MPointCon
import Derived.Test.YtaknmlohnifcdaaGreatDoorJ05MStorePut
import Derived.Test.YtaknmlohnifcdaaGreatDoorJ00MBits
import Derived.Test.YtaknmlohnifcdaaGreatDoorJ15MViewOps
import Derived.Laws.MakeOwn
import Derived.Laws.OwnMore
import Derived.Test.YtaknmlohnifcdaaGreatDoorJ19MCtsMath
set_option maxHeartbeats 8000000
set_option maxRecDepth 100000
namespace Go.Proofs.YtaknmlohnifcdaaGreatDoor
open Go.RowKit Go.Lib
abbrev YGr : Prop := ∀ v L w, Lst w v L → L.length ≤ 1000 → (∀ x ∈ L, okI x) → Calls Tryz.prog 38 #[v] w fun e w' => ∃ v', e = .returned (.tuple #[v', .bool (L.any grvC)]) ∧ Lst w' v' (L.map grvB) ∧ Kep w.heap.size w w'
theorem lst_one {w : World} {g : Nat} {x : Bd} (h : ZC w g (vals x)) : Lst w (.slice (some ⟨g, 0, none⟩) 1 1) [x] := by
 refine .inr ⟨g, 0, 1, rfl, fun k y hy i hi => ?_⟩
 have hk : k = 0 := by have := (List.getElem?_eq_some_iff.1 hy).1; simp at this; omega
 subst hk
 have e : x = y := by simpa using hy
 subst e
 have hl : i < (vals x).length := hi
 rw [Nat.zero_mul, Nat.add_zero, Nat.zero_add, List.getElem?_eq_getElem hl]
 exact h.at_ i _ (List.getElem?_eq_getElem hl)
theorem one_at {w : World} {v : Value} {y : Bd} (h : Lst w v [y]) : ∃ g off c, v = .slice (some ⟨g, off, none⟩) 1 c ∧ ∀ i, i < 10 → w.cell? ⟨g, off + i, none⟩ = (vals y)[i]? := by
 obtain ⟨b, c, rfl⟩ := h.shape
 obtain ⟨g, off, rfl, q⟩ := h.at_ (k := 0) rfl
 refine ⟨g, off, c, rfl, fun i hi => ?_⟩
 have := q i hi
 rw [Nat.zero_mul, Nat.add_zero] at this
 exact this
theorem shf_mapM {g : Bd → Bd} (hk : ∀ x, (g x).k = x.k) (hm : ∀ x, (g x).m = x.m) {L : List Bd} {C : List Ct} (h : ∀ c ∈ C, RgC L c) : shfL (L.map g) C = shfL L C := by
 unfold shfL
 rw [List.map_map]
 refine List.map_congr_left fun x _ => ?_
 have e : ∀ f : Ct → Int, shfI f (L.map g) C (g x) = shfI f L C x := fun f => by
  unfold shfI
  refine congrArg isum (List.map_congr_left fun c hc => ?_)
  obtain ⟨a, ha⟩ := Option.isSome_iff_exists.1 (h c hc).lo
  obtain ⟨b, hb⟩ := Option.isSome_iff_exists.1 (h c hc).hi
  have ga : look (L.map g) c.lo = some (g a) := by rw [look_map hk, ha]; rfl
  have gb : look (L.map g) c.hi = some (g b) := by rw [look_map hk, hb]; rfl
  have s : shI c.dp (g a) (g b) (g x).m = shI c.dp a b x.m := by unfold shI amI; rw [hm, hm, hm]
  rw [conS_at ga gb, conS_at ha hb, s, hk]
 show shfB (L.map g) C (g x) = shfB L C x
 unfold shfB
 rw [e, e]
theorem shf_slv {L : List Bd} {C : List Ct} (h : ∀ c ∈ C, RgC L c) : ∀ n, shfL (slvN C L n).1 C = shfL L C
 | 0 => rfl
 | n + 1 => (shf_mapM (g := rndB (slvN C L n).1 C) (fun _ => rfl) (fun _ => rfl) (fun c hc => rgc_slv (h c hc) n)).trans (shf_slv h n)
theorem grvB_m (x : Bd) : (grvB x).m = x.m := by unfold grvB; split <;> rfl
theorem shf_V {L : List Bd} (h : Vw L) : shfL (stpV L) (consL L) = stpS L :=
 (shf_slv (jarg_stp h).rg 4).trans (shf_mapM grvB_k grvB_m fun c hc => (rsc_cons h c hc).toRgC)
theorem sarg_V {L : List Bd} (h : Vw L) : SArg (stpV L) (consL L) := ⟨vw_V h, few_cons h, fun c hc => ⟨rgc_slv ((jarg_stp h).rg c hc) 4, (rsc_cons h c hc).dp⟩⟩
theorem sin_arg {L : List Bd} {C : List Ct} (h : SArg L C) : ∀ s ∈ shfL L C, Sin s := fun s hs => by
 unfold shfL at hs
 obtain ⟨x, hx, rfl⟩ := List.mem_map.1 hs
 have hA : ∀ x ∈ L, look L x.k = some x := fun x hx => look_mem h.vw.asc.once hx
 have b1 := shf_bd (f := (·.nx)) hA h.vb hx h.rg (fun c hc => (h.rg c hc).nx) h.few
 have b2 := shf_bd (f := (·.ny)) hA h.vb hx h.rg (fun c hc => (h.rg c hc).ny) h.few
 unfold shfB
 exact ⟨⟨by dsimp only; omega, by dsimp only; omega⟩, by dsimp only; omega, by dsimp only; omega⟩
theorem vw_single {x : Bd} (h : okI x) (k : (Lit.int .u32 x.k).wf = true) : Vw [x] :=
 ⟨⟨fun y hy => by simp at hy, trivial⟩, fun y hy => by rw [List.mem_singleton.1 hy]; exact h, fun y hy => by rw [List.mem_singleton.1 hy]; exact k, by simp⟩
theorem sarg_single {x : Bd} (h : okI x) (k : (Lit.int .u32 x.k).wf = true) : SArg [x] [] := ⟨vw_single h k, by decide, fun c hc => by simp at hc⟩
abbrev stv (v f : Value) (t c : Int) (z : Bool) : List Value := [v, f, .int .i64 t, .int .i64 c, .bool z]
structure SB (w : World) (sb : Nat) (vs : List Value) : Prop where
 ex : ∀ i, w.cell? ⟨sb, i, none⟩ = vs[i]?
 frz : ∀ i, w.frozen? ⟨sb, i, none⟩ = false
 lt : sb < w.heap.size
theorem SB.zc {w : World} {sb : Nat} {vs : List Value} (h : SB w sb vs) : ZC w sb vs := ⟨fun i _ hu => (h.ex i).trans hu, h.frz, h.lt⟩
theorem SB.kep {w w' : World} {sb : Nat} {vs : List Value} (h : SB w sb vs) (g : Kep w.heap.size w w') : SB w' sb vs :=
 ⟨fun i => (World.cell?_of_block (w := w) (g.block sb h.lt)).trans (h.ex i), fun i => (World.frozen?_of_block (w := w) (g.block sb h.lt)).trans (h.frz i), Nat.lt_of_lt_of_le h.lt g.size⟩
theorem SB.fro {a b sb : Nat} {w w' : World} {vs : List Value} (h : SB w sb vs) (f : FrO a b w w') (n1 : sb ≠ a) (n2 : sb ≠ b) : SB w' sb vs :=
 ⟨fun i => (World.cell?_of_block (w := w) (f.block sb h.lt n1 n2)).trans (h.ex i), fun i => (World.frozen?_of_block (w := w) (f.block sb h.lt n1 n2)).trans (h.frz i), Nat.lt_of_lt_of_le h.lt f.size⟩
theorem sb_new (w : World) (l : List Value) (t : TypeId) : SB (w.alloc (.cells ⟨l⟩ t)) w.heap.size l :=
 ⟨fun i => by rw [World.cell?_alloc_at _ _ _ _ rfl]; simp, fun _ => World.frozen?_alloc_at _ _ _ _ rfl, by simp⟩
theorem sb_new' (w : World) (l : List Value) (t : TypeId) {b : Nat} (h : b = w.heap.size) : SB (w.alloc (.cells ⟨l⟩ t)) b l := by subst h; exact sb_new w l t
theorem SB.put {w : World} {sb : Nat} {vs : List Value} (h : SB w sb vs) {i : Nat} (u : Value) (hi : i < vs.length) : SB (w.setCell ⟨sb, i, none⟩ u) sb (vs.set i u) := by
 refine ⟨fun j => ?_, fun j => by rw [World.frozen?_setCell]; exact h.frz j, by rw [World.size_setCell]; exact h.lt⟩
 by_cases c : j = i
 ·subst c
  rw [List.getElem?_set_self hi]
  exact World.cell?_setCell_same' _ _ _ (by rw [h.ex j, List.getElem?_eq_getElem hi]; rfl)
 ·rw [List.getElem?_set_ne (fun e => c e.symm), World.cell?_setCell_other (h := by intro e; injection e with _ e2; omega)]
  exact h.ex j
theorem SB.apart {w : World} {sb b o : Nat} {k : Int} {vs : List Value} (h : SB w sb vs) (hv : ∀ u ∈ vs, ∀ k : Int, u ≠ .int .u32 k) (e : w.cell? ⟨b, o, none⟩ = some (.int .u32 k)) : b ≠ sb := fun q => by
 subst q
 rw [h.ex o] at e
 exact hv _ (List.mem_of_getElem? e) k rfl
theorem stv_no {x y : Option Addr} {m n p q : Nat} {t c : Int} {z : Bool} : ∀ u ∈ stv (.slice x m p) (.slice y n q) t c z, ∀ k : Int, u ≠ .int .u32 k := by simp
theorem sum_no {t c : Int} {z : Bool} : ∀ u ∈ [Value.int .i64 t, .int .i64 c, .bool z], ∀ k : Int, u ≠ .int .u32 k := by simp
theorem lst_fro {w w' : World} {sb : Nat} {v : Value} {L : List Bd} {vs : List Value} (h : Lst w v L) (S : SB w sb vs) (hv : ∀ u ∈ vs, ∀ k : Int, u ≠ .int .u32 k) (f : FrO sb sb w w') : Lst w' v L := by
 rcases h with h | ⟨g, off, cap, e, hc⟩
 ·exact .inl h
 ·refine .inr ⟨g, off, cap, e, fun k b hb i hi => ?_⟩
  have n : g ≠ sb := S.apart hv (k := b.k) ((hc k b hb 0 (by decide)).trans rfl)
  have e := hc k b hb i hi
  have hl : i < (vals b).length := hi
  rw [List.getElem?_eq_getElem hl] at e ⊢
  exact f.cell n n e
theorem sqc_fro {w w' : World} {sb : Nat} {v : Value} {C : List Ct} {vs : List Value} (h : Sq ctv 5 w v C) (S : SB w sb vs) (hv : ∀ u ∈ vs, ∀ k : Int, u ≠ .int .u32 k) (f : FrO sb sb w w') : Sq ctv 5 w' v C := by
 obtain ⟨base, cap, rfl, hc⟩ := h
 refine ⟨base, cap, rfl, fun k x hx => ?_⟩
 obtain ⟨g, off, e, hi⟩ := hc k x hx
 have n : g ≠ sb := S.apart hv (k := x.lo) (hi 0 _ rfl)
 exact ⟨g, off, e, fun i u hu => f.cell n n (hi i u hu)⟩
abbrev KFr (n p t : Int) : Prop := ∀ w, Calls Tryz.prog 63 #[.int .i64 n, .int .i32 p] w fun e w' => e = .returned (.int .i64 t) ∧ Kep w.heap.size w w'
abbrev KMdC (a b c t e : Int) : Prop := ∀ w, Calls Tryz.prog 81 #[.int .i64 a, .int .i64 b, .int .i64 c] w fun f w' => f = .returned (.tuple #[.int .i64 t, .int .i64 e]) ∧ Kep w.heap.size w w'
abbrev KMsC (a b t e : Int) : Prop := ∀ w, Calls Tryz.prog 80 #[.int .i64 a, .int .i64 b, .int .i64 16] w fun f w' => f = .returned (.tuple #[.int .i64 t, .int .i64 e]) ∧ Kep w.heap.size w w'
theorem kmsC {a b : Int} (ha : I64 a) (hb : I64 b) (h1 : -9223372036854775808 ≤ a * b / 65536) (h2 : a * b / 65536 < 9223372036854775808) : KMsC a b (a * b / 65536) (mse a b 16) := fun w => by
 have e := msv_16 h1 h2
 have := kep_calls (mulshift_any a b 16 ha hb w)
 rw [e] at this
 exact this
theorem cfr {n p t e : Int} (hp : IntKind.i64.wrap p = p) (X1 : KMsC n p t e) : KFr n p t := fun w => by
 have C1 := Lib.hid X1
 clear X1
 go_enter Tryz.func63, Tryz.ntmps63
 go_wp2_with ((with_reducible refine (C1.out _).mono ?_); rintro e w1 ⟨rfl, g1⟩)
 go_ret
 exact ⟨rfl, g1⟩
theorem cfr_ok {n p : Int} (hn : -16777216 ≤ n ∧ n ≤ 16777216) (hp : Nr p) : KFr n p (n * p / 65536) := by
 have b := mul_bd (a := n) (b := p) (A := 16777216) (B := 65536) hn hp
 exact cfr (by rw [IntKind.wrap_i64]; omega) (kmsC (by unfold I64; omega) (by unfold I64; omega) (by omega) (by omega))
theorem cam0 {lo hi nx ny dp : Int} {x y : Bd} (h0 : decide (dp ≤ 1024) = true) : CAm lo hi nx ny dp x y 0 := fun w => by
 go_enter Tryz.func82, Tryz.ntmps82
 go_wp2_with fail
 go_ret
 exact ⟨rfl, (kep_more (kep_more (kep_more (Kep.refl _ _) _) _) _)⟩
theorem cam1 {lo hi nx ny dp : Int} {x y : Bd} (h0 : decide (dp ≤ 1024) = false) (h1 : (x.m == 0) = true) (h2 : (y.m == 0) = true) : CAm lo hi nx ny dp x y 0 := fun w => by
 go_enter Tryz.func82, Tryz.ntmps82
 go_wp2_with fail
 go_ret
 exact ⟨rfl, (kep_more (kep_more (kep_more (Kep.refl _ _) _) _) _)⟩
theorem cam2 {lo hi nx ny dp u t : Int} {x y : Bd} (h0 : decide (dp ≤ 1024) = false) (h1 : (x.m == 0) = true) (h2 : (y.m == 0) = false) (e1 : IntKind.i64.wrap dp = dp) (e2 : IntKind.i64.wrap (dp - 1024) = u) (X1 : KFr u 26214 t) : CAm lo hi nx ny dp x y t := fun w => by
 have C1 := Lib.hid X1
 clear X1
 go_enter Tryz.func82, Tryz.ntmps82
 go_wp2_with (first
  | ((with_reducible refine (C1.out _).mono ?_); rintro e w1 ⟨rfl, g1⟩
     have gg := kep_next (kep_more (kep_more (kep_more (Kep.refl _ _) _) _) _) g1))
 go_ret
 exact ⟨rfl, gg⟩
theorem cam3 {lo hi nx ny dp u t : Int} {x y : Bd} (h0 : decide (dp ≤ 1024) = false) (h1 : (x.m == 0) = false) (e1 : IntKind.i64.wrap dp = dp) (e2 : IntKind.i64.wrap (dp - 1024) = u) (X1 : KFr u 26214 t) : CAm lo hi nx ny dp x y t := fun w => by
 have C1 := Lib.hid X1
 clear X1
 go_enter Tryz.func82, Tryz.ntmps82
 go_wp2_with (first
  | ((with_reducible refine (C1.out _).mono ?_); rintro e w1 ⟨rfl, g1⟩
     have gg := kep_next (kep_more (kep_more (kep_more (Kep.refl _ _) _) _) _) g1))
 go_ret
 exact ⟨rfl, gg⟩
theorem cam_ok {lo hi nx ny dp : Int} {x y : Bd} (hx : Vb x) (hy : Vb y) (hd : Dp dp) : CAm lo hi nx ny dp x y (amI dp x y) := by
 have m0 := hx.m0
 have m1 := hy.m0
 unfold amI
 by_cases c0 : dp ≤ 1024
 ·rw [if_pos (.inl c0)]
  exact cam0 (decide_eq_true c0)
 ·have w1 : IntKind.i64.wrap dp = dp := by rw [IntKind.wrap_i64]; omega
  have w2 : IntKind.i64.wrap (dp - 1024) = dp - 1024 := by rw [IntKind.wrap_i64]; omega
  have k := cfr_ok (n := dp - 1024) (p := 26214) (by omega) ⟨by omega, by omega⟩
  by_cases c1 : x.m = 0
  ·by_cases c2 : y.m = 0
   ·rw [if_pos (.inr (by omega))]
    exact cam1 (decide_eq_false c0) (beq_iff_eq.2 c1) (beq_iff_eq.2 c2)
   ·rw [if_neg (by omega)]
    exact cam2 (decide_eq_false c0) (beq_iff_eq.2 c1) (beq_eq_false_iff_ne.2 c2) w1 w2 k
  ·rw [if_neg (by omega)]
   exact cam3 (decide_eq_false c0) (beq_eq_false_iff_ne.2 c1) w1 w2 k
theorem csh_false {lo hi nx ny dp n s t e : Int} {x y : Bd} (X1 : CAm lo hi nx ny dp x y n) (X2 : KMdC n x.m s t e) (e1 : IntKind.i64.wrap x.m = x.m) (e2 : IntKind.i64.wrap y.m = y.m) (e3 : IntKind.i64.wrap (x.m + y.m) = s) : CSh lo hi nx ny dp x y false t := fun w => by
 have C1 := Lib.hid X1
 have C2 := Lib.hid X2
 clear X1 X2
 go_enter Tryz.func64, Tryz.ntmps64
 go_upto_region 4 with fail
 generalize hW : World.alloc (World.alloc (World.alloc w _) _) _ = W1
 have Zc : ZC W1 (w.heap.size) [.int .u32 lo, .int .u32 hi, .int .i32 nx, .int .i32 ny, .int .i32 dp] := by rw [← hW]; exact (ZC.more (ZC.more (zc_new' _ _ _ (by first | rfl | simp)) _) _)
 have Zx : ZC W1 (w.heap.size + 1) [.int .u32 x.k, .int .i32 x.r, .int .i32 x.ax, .int .i32 x.ay, .int .i32 x.m, .int .i32 x.o, .int .i32 x.px, .int .i32 x.py, .int .i32 x.vx, .int .i32 x.vy] := by rw [← hW]; exact (ZC.more (zc_new' _ _ _ (by first | rfl | simp)) _)
 have Zy : ZC W1 (w.heap.size + 1 + 1) [.int .u32 y.k, .int .i32 y.r, .int .i32 y.ax, .int .i32 y.ay, .int .i32 y.m, .int .i32 y.o, .int .i32 y.px, .int .i32 y.py, .int .i32 y.vx, .int .i32 y.vy] := by rw [← hW]; exact (zc_new' _ _ _ (by first | rfl | simp))
 have gg : Kep w.heap.size w W1 := by rw [← hW]; exact (kep_more (kep_more (kep_more (Kep.refl _ _) _) _) _)
 clear hW
 refine wp_region_noPanic ?_
 refine wp_region_held_drew (S := (fun w' => ZC w' (w.heap.size) [.int .u32 lo, .int .u32 hi, .int .i32 nx, .int .i32 ny, .int .i32 dp] ∧ ZC w' (w.heap.size + 1) [.int .u32 x.k, .int .i32 x.r, .int .i32 x.ax, .int .i32 x.ay, .int .i32 x.m, .int .i32 x.o, .int .i32 x.px, .int .i32 x.py, .int .i32 x.vx, .int .i32 x.vy] ∧ ZC w' (w.heap.size + 1 + 1) [.int .u32 y.k, .int .i32 y.r, .int .i32 y.ax, .int .i32 y.ay, .int .i32 y.m, .int .i32 y.o, .int .i32 y.px, .int .i32 y.py, .int .i32 y.vx, .int .i32 y.vy] ∧ Kep w.heap.size w w')) (by kernel_rfl) (⟨Zc.drew, Zx.drew, Zy.drew, kep_drew gg⟩) (fun hH => ?_)
 clear Zc Zx Zy gg
 refine rtk 0 (oi := ⟨some 18, .load 77 (.tmp 4), _, _, _, none⟩) (v := ?_) rfl ?_ hH ?_
 rotate_left
 ·(intro wq hSw; (try dsimp only at hSw); obtain ⟨Zc, Zx, Zy, -⟩ := hSw; replace Zc := za_of Zc; replace Zx := za_of Zx; replace Zy := za_of Zy; go_simp; (try with_reducible rfl))
 refine rtk 1 (oi := ⟨some 19, .load 40 (.tmp 5), _, _, _, none⟩) (v := ?_) rfl ?_ hH ?_
 rotate_left
 ·(intro wq hSw; (try dsimp only at hSw); obtain ⟨Zc, Zx, Zy, -⟩ := hSw; replace Zc := za_of Zc; replace Zx := za_of Zx; replace Zy := za_of Zy; go_simp; (try with_reducible rfl))
 refine rtk 2 (oi := ⟨some 20, .load 40 (.tmp 6), _, _, _, none⟩) (v := ?_) rfl ?_ hH ?_
 rotate_left
 ·(intro wq hSw; (try dsimp only at hSw); obtain ⟨Zc, Zx, Zy, -⟩ := hSw; replace Zc := za_of Zc; replace Zx := za_of Zx; replace Zy := za_of Zy; go_simp; (try with_reducible rfl))
 refine sN 4 hH ?_
 refine sT 5 hH ?_
 refine sT 6 hH ?_
 refine rtk 7 (oi := ⟨some 25, .load 21 (.tmp 24), _, _, _, none⟩) (v := ?_) rfl ?_ hH ?_
 rotate_left
 ·(intro wq hSw; (try dsimp only at hSw); obtain ⟨Zc, Zx, Zy, -⟩ := hSw; replace Zc := za_of Zc; replace Zx := za_of Zx; replace Zy := za_of Zy; go_simp; (try with_reducible rfl))
 refine sN 8 hH ?_
 refine sT 9 hH ?_
 refine rtk 10 (oi := ⟨some 28, .load 21 (.tmp 27), _, _, _, none⟩) (v := ?_) rfl ?_ hH ?_
 rotate_left
 ·(intro wq hSw; (try dsimp only at hSw); obtain ⟨Zc, Zx, Zy, -⟩ := hSw; replace Zc := za_of Zc; replace Zx := za_of Zx; replace Zy := za_of Zy; go_simp; (try with_reducible rfl))
 refine sT 11 hH ?_
 refine sN 12 hH ?_
 refine sC 3 (fun K hK => ?_)
 go_simp
 (with_reducible refine (C1.out _).mono ?_); rintro e v4_3 ⟨rfl, g⟩
 refine hK.out _ _ (by (try dsimp only); obtain ⟨Zc, Zx, Zy, gg⟩ := id hH; exact ⟨Zc.kep g, Zx.kep g, Zy.kep g, kep_next gg g⟩) (fun hH2 => ?_)
 clear hK K hH; have hH := hH2; clear hH2
 try simp only [Act.put, List.setIfInBounds_toArray, List.set_cons_zero, List.set_cons_succ]
 refine sC 13 (fun K hK => ?_)
 go_simp
 (with_reducible refine (C2.out _).mono ?_); rintro e v4_13 ⟨rfl, g⟩
 refine hK.out _ _ (by (try dsimp only); obtain ⟨Zc, Zx, Zy, gg⟩ := id hH; exact ⟨Zc.kep g, Zx.kep g, Zy.kep g, kep_next gg g⟩) (fun hH2 => ?_)
 clear hK K hH; have hH := hH2; clear hH2
 refine sT 14 hH ?_
 refine sT 15 hH ?_
 refine sN 16 hH ?_
 refine sT 17 hH ?_
 refine sN 18 hH ?_
 refine sE ?_
 obtain ⟨Zc, Zx, Zy, gg⟩ := hH
 go_wp2_with fail
 go_ret
 exact ⟨rfl, gg⟩
theorem csh_true {lo hi nx ny dp n s t e : Int} {x y : Bd} (X1 : CAm lo hi nx ny dp x y n) (X2 : KMdC n y.m s t e) (e1 : IntKind.i64.wrap x.m = x.m) (e2 : IntKind.i64.wrap y.m = y.m) (e3 : IntKind.i64.wrap (x.m + y.m) = s) : CSh lo hi nx ny dp x y true t := fun w => by
 have C1 := Lib.hid X1
 have C2 := Lib.hid X2
 clear X1 X2
 go_enter Tryz.func64, Tryz.ntmps64
 go_upto_region 4 with fail
 generalize hW : World.alloc (World.alloc (World.alloc w _) _) _ = W1
 have Zc : ZC W1 (w.heap.size) [.int .u32 lo, .int .u32 hi, .int .i32 nx, .int .i32 ny, .int .i32 dp] := by rw [← hW]; exact (ZC.more (ZC.more (zc_new' _ _ _ (by first | rfl | simp)) _) _)
 have Zx : ZC W1 (w.heap.size + 1) [.int .u32 x.k, .int .i32 x.r, .int .i32 x.ax, .int .i32 x.ay, .int .i32 x.m, .int .i32 x.o, .int .i32 x.px, .int .i32 x.py, .int .i32 x.vx, .int .i32 x.vy] := by rw [← hW]; exact (ZC.more (zc_new' _ _ _ (by first | rfl | simp)) _)
 have Zy : ZC W1 (w.heap.size + 1 + 1) [.int .u32 y.k, .int .i32 y.r, .int .i32 y.ax, .int .i32 y.ay, .int .i32 y.m, .int .i32 y.o, .int .i32 y.px, .int .i32 y.py, .int .i32 y.vx, .int .i32 y.vy] := by rw [← hW]; exact (zc_new' _ _ _ (by first | rfl | simp))
 have gg : Kep w.heap.size w W1 := by rw [← hW]; exact (kep_more (kep_more (kep_more (Kep.refl _ _) _) _) _)
 clear hW
 refine wp_region_noPanic ?_
 refine wp_region_held_drew (S := (fun w' => ZC w' (w.heap.size) [.int .u32 lo, .int .u32 hi, .int .i32 nx, .int .i32 ny, .int .i32 dp] ∧ ZC w' (w.heap.size + 1) [.int .u32 x.k, .int .i32 x.r, .int .i32 x.ax, .int .i32 x.ay, .int .i32 x.m, .int .i32 x.o, .int .i32 x.px, .int .i32 x.py, .int .i32 x.vx, .int .i32 x.vy] ∧ ZC w' (w.heap.size + 1 + 1) [.int .u32 y.k, .int .i32 y.r, .int .i32 y.ax, .int .i32 y.ay, .int .i32 y.m, .int .i32 y.o, .int .i32 y.px, .int .i32 y.py, .int .i32 y.vx, .int .i32 y.vy] ∧ Kep w.heap.size w w')) (by kernel_rfl) (⟨Zc.drew, Zx.drew, Zy.drew, kep_drew gg⟩) (fun hH => ?_)
 clear Zc Zx Zy gg
 refine rtk 0 (oi := ⟨some 18, .load 77 (.tmp 4), _, _, _, none⟩) (v := ?_) rfl ?_ hH ?_
 rotate_left
 ·(intro wq hSw; (try dsimp only at hSw); obtain ⟨Zc, Zx, Zy, -⟩ := hSw; replace Zc := za_of Zc; replace Zx := za_of Zx; replace Zy := za_of Zy; go_simp; (try with_reducible rfl))
 refine rtk 1 (oi := ⟨some 19, .load 40 (.tmp 5), _, _, _, none⟩) (v := ?_) rfl ?_ hH ?_
 rotate_left
 ·(intro wq hSw; (try dsimp only at hSw); obtain ⟨Zc, Zx, Zy, -⟩ := hSw; replace Zc := za_of Zc; replace Zx := za_of Zx; replace Zy := za_of Zy; go_simp; (try with_reducible rfl))
 refine rtk 2 (oi := ⟨some 20, .load 40 (.tmp 6), _, _, _, none⟩) (v := ?_) rfl ?_ hH ?_
 rotate_left
 ·(intro wq hSw; (try dsimp only at hSw); obtain ⟨Zc, Zx, Zy, -⟩ := hSw; replace Zc := za_of Zc; replace Zx := za_of Zx; replace Zy := za_of Zy; go_simp; (try with_reducible rfl))
 refine sN 4 hH ?_
 refine sT 5 hH ?_
 refine sT 6 hH ?_
 refine rtk 7 (oi := ⟨some 25, .load 21 (.tmp 24), _, _, _, none⟩) (v := ?_) rfl ?_ hH ?_
 rotate_left
 ·(intro wq hSw; (try dsimp only at hSw); obtain ⟨Zc, Zx, Zy, -⟩ := hSw; replace Zc := za_of Zc; replace Zx := za_of Zx; replace Zy := za_of Zy; go_simp; (try with_reducible rfl))
 refine sN 8 hH ?_
 refine sT 9 hH ?_
 refine rtk 10 (oi := ⟨some 28, .load 21 (.tmp 27), _, _, _, none⟩) (v := ?_) rfl ?_ hH ?_
 rotate_left
 ·(intro wq hSw; (try dsimp only at hSw); obtain ⟨Zc, Zx, Zy, -⟩ := hSw; replace Zc := za_of Zc; replace Zx := za_of Zx; replace Zy := za_of Zy; go_simp; (try with_reducible rfl))
 refine sT 11 hH ?_
 refine sN 12 hH ?_
 refine sC 3 (fun K hK => ?_)
 go_simp
 (with_reducible refine (C1.out _).mono ?_); rintro e v4_3 ⟨rfl, g⟩
 refine hK.out _ _ (by (try dsimp only); obtain ⟨Zc, Zx, Zy, gg⟩ := id hH; exact ⟨Zc.kep g, Zx.kep g, Zy.kep g, kep_next gg g⟩) (fun hH2 => ?_)
 clear hK K hH; have hH := hH2; clear hH2
 try simp only [Act.put, List.setIfInBounds_toArray, List.set_cons_zero, List.set_cons_succ]
 refine sC 13 (fun K hK => ?_)
 go_simp
 (with_reducible refine (C2.out _).mono ?_); rintro e v4_13 ⟨rfl, g⟩
 refine hK.out _ _ (by (try dsimp only); obtain ⟨Zc, Zx, Zy, gg⟩ := id hH; exact ⟨Zc.kep g, Zx.kep g, Zy.kep g, kep_next gg g⟩) (fun hH2 => ?_)
 clear hK K hH; have hH := hH2; clear hH2
 refine sT 14 hH ?_
 refine sT 15 hH ?_
 refine sN 16 hH ?_
 refine sT 17 hH ?_
 refine sN 18 hH ?_
 refine sE ?_
 obtain ⟨Zc, Zx, Zy, gg⟩ := hH
 go_wp2_with fail
 go_ret
 exact ⟨rfl, gg⟩
theorem csh_val {dp m : Int} {x y : Bd} (hx : Vb x) (hy : Vb y) (hd : Dp dp) (hm : 0 ≤ m ∧ m ≤ 1048576) : mdv (amI dp x y) m (x.m + y.m) = shI dp x y m := by
 have b := am_bd (x := x) (y := y) hd
 have m0 := hx.m0; have m1 := hy.m0
 unfold shI mdv
 by_cases c : x.m + y.m = 0
 ·rw [if_pos c, if_pos (am_zero c)]
 ·rw [if_neg c]
  have e : fl (amI dp x y * m) (x.m + y.m) = amI dp x y * m / (x.m + y.m) := if_neg (by omega)
  rw [e]
  have p := mul_bd (a := amI dp x y) (b := m) (A := 6710476) (B := 1048576) (by omega) (by omega)
  have p0 := Int.mul_nonneg b.1 hm.1
  have g := Int.ediv_nonneg (b := x.m + y.m) p0 (by omega)
  have g2 := Int.ediv_le_self (x.m + y.m) p0
  rw [rv_i64 (by omega) (by omega)]
  by_cases c2 : amI dp x y = 0
  ·rw [if_pos c2, c2, Int.zero_mul, Int.zero_ediv]
  ·rw [if_neg c2]
theorem csh_ok {lo hi nx ny dp : Int} {x y : Bd} (z : Bool) (hx : Vb x) (hy : Vb y) (hd : Dp dp) : CSh lo hi nx ny dp x y z (shI dp x y (if z = true then y.m else x.m)) := by
 have m0 := hx.m0; have m1 := hx.m1; have m2 := hy.m0; have m3 := hy.m1
 have b := am_bd (x := x) (y := y) hd
 have A := cam_ok (lo := lo) (hi := hi) (nx := nx) (ny := ny) hx hy hd
 have w1 : IntKind.i64.wrap x.m = x.m := by rw [IntKind.wrap_i64]; omega
 have w2 : IntKind.i64.wrap y.m = y.m := by rw [IntKind.wrap_i64]; omega
 have w3 : IntKind.i64.wrap (x.m + y.m) = x.m + y.m := by rw [IntKind.wrap_i64]; omega
 have q : ∀ {m : Int}, 0 ≤ m ∧ m ≤ 1048576 → KMdC (amI dp x y) m (x.m + y.m) (shI dp x y m) (mde (amI dp x y) m (x.m + y.m)) := fun {m} h w => by
  rw [← csh_val hx hy hd h]
  exact kep_calls (muldiv_any _ _ _ (by unfold I64; omega) (by unfold I64; omega) (by unfold I64; omega) w)
 cases z
 ·exact csh_false A (q ⟨m0, m1⟩) w1 w2 w3
 ·exact csh_true A (q ⟨m2, m3⟩) w1 w2 w3
def flatS (D : List Sh) : List Value := D.flatMap shv
theorem flatS_len (D : List Sh) : (flatS D).length = D.length * 2 := cat_len shv_len D
theorem flatS_at {D : List Sh} {i : Nat} {s : Sh} (h : D[i]? = some s) : (flatS D)[i * 2]? = some (.int .i64 s.1) ∧ (flatS D)[i * 2 + 1]? = some (.int .i64 s.2) := ⟨cat_get shv_len D i s h 0 (by decide), cat_get shv_len D i s h 1 (by decide)⟩
theorem flatS_set : ∀ (D : List Sh) (i : Nat) (s : Sh) (a b : Int), D[i]? = some s → (flatS D).set (i * 2) (.int .i64 a) = flatS (D.set i (a, s.2)) ∧ (flatS D).set (i * 2 + 1) (.int .i64 b) = flatS (D.set i (s.1, b))
 | [], _, _, _, _, h => by simp at h
 | y :: l, 0, s, a, b, h => by
   simp at h
   subst h
   exact ⟨rfl, rfl⟩
 | y :: l, i + 1, s, a, b, h => by
   have e := flatS_set l i s a b (by simpa using h)
   have f : ∀ y (l : List Sh), flatS (y :: l) = shv y ++ flatS l := fun y l => by simp [flatS]
   have q : ∀ (l : List Value) (k : Nat) (v : Value), (shv y ++ l).set ((i + 1) * 2 + k) v = shv y ++ l.set (i * 2 + k) v := fun l k v => by
    rw [List.set_append_right _ _ (by rw [shv_len]; omega), shv_len]
    congr 2
    omega
   rw [List.set_cons_succ, List.set_cons_succ, f, f, f, ← e.1, ← e.2]
   exact ⟨q _ 0 _, q _ 1 _⟩
structure SX (wa wb w : World) (ga : Nat) (D : List Sh) : Prop where
 kep : Kep wa.heap.size wa w
 fr : FrO ga ga wb w
 lg : wa.heap.size ≤ ga
 z : ZC w ga (flatS D)
theorem SX.on {wa wb w w' : World} {ga : Nat} {D : List Sh} (h : SX wa wb w ga D) (g : Kep w.heap.size w w') : SX wa wb w' ga D := ⟨h.kep.trans (g.mono h.kep.size), h.fr.kep g, h.lg, h.z.kep g⟩
theorem SX.setx {wa wb w : World} {ga i : Nat} {D : List Sh} {s : Sh} (h : SX wa wb w ga D) (hs : D[i]? = some s) (a : Int) : SX wa wb (w.setCell ⟨ga, i * 2, none⟩ (.int .i64 a)) ga (D.set i (a, s.2)) :=
 ⟨h.kep.setCell h.lg _, h.fr.set1 _, h.lg, by rw [← (flatS_set D i s a 0 hs).1]; exact h.z.put _ (by rw [flatS_len]; have := (List.getElem?_eq_some_iff.1 hs).1; omega)⟩
theorem SX.sety {wa wb w : World} {ga i : Nat} {D : List Sh} {s : Sh} (h : SX wa wb w ga D) (hs : D[i]? = some s) (b : Int) : SX wa wb (w.setCell ⟨ga, i * 2 + 1, none⟩ (.int .i64 b)) ga (D.set i (s.1, b)) :=
 ⟨h.kep.setCell h.lg _, h.fr.set1 _, h.lg, by rw [← (flatS_set D i s 0 b hs).2]; exact h.z.put _ (by rw [flatS_len]; have := (List.getElem?_eq_some_iff.1 hs).1; omega)⟩
theorem SX.start {wa wb w : World} {ga : Nat} {D : List Sh} (h : SX wa wb w ga D) : SX wa w w ga D := ⟨h.kep, .refl _ _ _, h.lg, h.z⟩
theorem cpush {D : List Sh} {i n : Nat} {s : Sh} {sg sh nx ny fx fy sx sy a b : Int} {wa wb w : World} {ga tb cb ca : Nat} (h : SX wa wb w ga D) (hs : D[i]? = some s) (hn : D.length = n)
 (ht : w.cell? ⟨tb, 0, none⟩ = some (.slice (some ⟨ga, 0, none⟩) n ca)) (hx : w.cell? ⟨cb, 2, none⟩ = some (.int .i32 nx)) (hy : w.cell? ⟨cb, 3, none⟩ = some (.int .i32 ny)) (n1 : tb ≠ ga) (n2 : cb ≠ ga)
 (X1 : KFr sh nx fx) (X2 : KFr sh ny fy) (e1 : IntKind.i64.wrap (sg * fx) = sx) (e2 : IntKind.i64.wrap (s.1 + sx) = a) (e3 : IntKind.i64.wrap (sg * fy) = sy) (e4 : IntKind.i64.wrap (s.2 + sy) = b) :
 Calls Tryz.prog 62 #[.int .i64 (i : Int), .int .i64 sg, .int .i64 sh, .pointer (some ⟨tb, 0, none⟩), .pointer (some ⟨cb, 0, none⟩)] w fun e w' => e = .returned (.tuple #[]) ∧ SX wa wb w' ga (D.set i (a, b)) := by
 have hin : i < n := by rw [← hn]; exact (List.getElem?_eq_some_iff.1 hs).1
 have i0 : (0 : Int) ≤ (i : Int) := Int.natCast_nonneg _
 have i1 : (i : Int) < (n : Int) := by omega
 have C1 := Lib.hid X1
 have C2 := Lib.hid X2
 have HS := Lib.hid hs
 have HC : Hid (SX wa wb w.drew ga D) := Lib.hid (h.on (kep_drew (Kep.refl _ _)))
 clear X1 X2 hs hn h hin
 go_enter Tryz.func62, Tryz.ntmps62
 go_upto_region 0 with fail
 go_cut [] (fun wx => Hid (SX wa wb wx ga (D.set i (a, s.2))) ∧ wx.cell? ⟨tb, 0, none⟩ = some (.slice (some ⟨ga, 0, none⟩) n ca) ∧ wx.cell? ⟨cb, 3, none⟩ = some (.int .i32 ny))
 case first =>
  refine wp_region_noPanic ?_
  refine wp_region_held_drew (S := (fun w' => w'.cell? ⟨tb, 0, none⟩ = some (.slice (some ⟨ga, 0, none⟩) n ca) ∧ w'.cell? ⟨cb, 2, none⟩ = some (.int .i32 nx) ∧ w'.cell? ⟨cb, 3, none⟩ = some (.int .i32 ny))) (by kernel_rfl) (⟨by rw [World.cell?_drew]; exact ht, by rw [World.cell?_drew]; exact hx, by rw [World.cell?_drew]; exact hy⟩) (fun hH => ?_)
  clear ht hx hy
  generalize w.drew = Y0 at *
  refine sT 0 hH ?_
  refine sT 1 hH ?_
  refine sN 2 hH ?_
  refine sT 3 hH ?_
  refine sT 5 hH ?_
  refine sT 6 hH ?_
  refine sN 7 hH ?_
  refine sT 8 hH ?_
  refine sN 9 hH ?_
  refine wpAnyH_ready (rs := [4, 10]) (by kernel_rfl) (by simp) ?_
  refine AllReadyH.cons (o := ⟨some 12, .load 2 (.tmp 11), _, _, _, none⟩) rfl (fun K hK => ?_) (AllReadyH.cons (o := ⟨some 18, .call { callee := .value (.func 63), args := #[.tmp 14, .tmp 17], argTypes := #[2, 21] }, _, _, _, none⟩) rfl (fun K hK => ?_) AllReadyH.nil)
  ·have a0 : Y0.cell? ⟨ga, i * 2, none⟩ = some (.int .i64 s.1) := HC.out.z.i (flatS_at HS.out).1
   go_simp
   refine hK.out _ _ hH (fun hH2 => ?_)
   clear a0
   clear hK K hH; have hH := hH2; clear hH2
   try simp only [Act.put, List.setIfInBounds_toArray, List.set_cons_zero, List.set_cons_succ]
   refine sC 10 (fun K hK => ?_)
   go_simp
   (with_reducible refine (C1.out _).mono ?_); rintro e v1 ⟨rfl, g⟩
   replace HC := Lib.hid (HC.out.on g)
   refine hK.out _ _ (by obtain ⟨q0, q1, q2⟩ := id hH; exact ⟨g.all q0, g.all q1, g.all q2⟩) (fun hH2 => ?_)
   clear g
   clear hK K hH; have hH := hH2; clear hH2
   refine sT 11 hH ?_
   refine sT 12 hH ?_
   refine sN 13 hH ?_
   refine sN 14 hH ?_
   refine sC 15 (fun K hK => ?_)
   have a0 : v1.cell? ⟨ga, i * 2, none⟩ = some (.int .i64 s.1) := HC.out.z.i (flatS_at HS.out).1
   have f0 := HC.out.z.frz (i * 2)
   have hz := HC.out.z.lt
   obtain ⟨q0, q1, q2⟩ := id hH
   go_simp
   refine hK.out _ _ (by (try dsimp only); exact ⟨sset_far q0 (fun e => n1 e.symm), sset_far q1 (fun e => n2 e.symm), sset_far q2 (fun e => n2 e.symm)⟩) (fun hH2 => ?_)
   clear a0 f0 hz q0 q1 q2
   clear hK K hH; have hH := hH2; clear hH2
   try simp only [Act.put, List.setIfInBounds_toArray, List.set_cons_zero, List.set_cons_succ]
   refine sE ?_
   obtain ⟨q0, q1, q2⟩ := hH
   have H9 := Lib.hid (HC.out.setx HS.out a)
   go_wp2_with fail
   go_meet
   exact ⟨H9, q0, q2⟩
  ·go_simp
   (with_reducible refine (C1.out _).mono ?_); rintro e v1 ⟨rfl, g⟩
   replace HC := Lib.hid (HC.out.on g)
   refine hK.out _ _ (by obtain ⟨q0, q1, q2⟩ := id hH; exact ⟨g.all q0, g.all q1, g.all q2⟩) (fun hH2 => ?_)
   clear g
   clear hK K hH; have hH := hH2; clear hH2
   refine sN 11 hH ?_
   refine sC 4 (fun K hK => ?_)
   have a0 : v1.cell? ⟨ga, i * 2, none⟩ = some (.int .i64 s.1) := HC.out.z.i (flatS_at HS.out).1
   go_simp
   refine hK.out _ _ hH (fun hH2 => ?_)
   clear a0
   clear hK K hH; have hH := hH2; clear hH2
   refine sT 12 hH ?_
   refine sT 13 hH ?_
   refine sN 14 hH ?_
   refine sC 15 (fun K hK => ?_)
   have a0 : v1.cell? ⟨ga, i * 2, none⟩ = some (.int .i64 s.1) := HC.out.z.i (flatS_at HS.out).1
   have f0 := HC.out.z.frz (i * 2)
   have hz := HC.out.z.lt
   obtain ⟨q0, q1, q2⟩ := id hH
   go_simp
   refine hK.out _ _ (by (try dsimp only); exact ⟨sset_far q0 (fun e => n1 e.symm), sset_far q1 (fun e => n2 e.symm), sset_far q2 (fun e => n2 e.symm)⟩) (fun hH2 => ?_)
   clear a0 f0 hz q0 q1 q2
   clear hK K hH; have hH := hH2; clear hH2
   try simp only [Act.put, List.setIfInBounds_toArray, List.set_cons_zero, List.set_cons_succ]
   refine sE ?_
   obtain ⟨q0, q1, q2⟩ := hH
   have H9 := Lib.hid (HC.out.setx HS.out a)
   go_wp2_with fail
   go_meet
   exact ⟨H9, q0, q2⟩
 case rest =>
  obtain ⟨HD, ht, hy⟩ := hcut
  clear HC
  have HC := Lib.hid (HD.out.on (kep_drew (Kep.refl _ _)))
  have HT : Hid ((D.set i (a, s.2))[i]? = some (a, s.2)) := Lib.hid (by rw [List.getElem?_set_self (List.getElem?_eq_some_iff.1 HS.out).1])
  clear HD HS
  have HS := HT
  clear HT
  go_upto_region 1 with fail
  refine wp_region_noPanic ?_
  refine wp_region_held_drew (S := (fun w' => w'.cell? ⟨tb, 0, none⟩ = some (.slice (some ⟨ga, 0, none⟩) n ca) ∧ w'.cell? ⟨cb, 3, none⟩ = some (.int .i32 ny))) (by kernel_rfl) (⟨by rw [World.cell?_drew]; exact ht, by rw [World.cell?_drew]; exact hy⟩) (fun hH => ?_)
  clear ht hy
  generalize wc.drew = Y1 at *
  refine sT 0 hH ?_
  refine sT 1 hH ?_
  refine sN 2 hH ?_
  refine sT 3 hH ?_
  refine sT 5 hH ?_
  refine sT 6 hH ?_
  refine sN 7 hH ?_
  refine sT 8 hH ?_
  refine sN 9 hH ?_
  refine wpAnyH_ready (rs := [4, 10]) (by kernel_rfl) (by simp) ?_
  refine AllReadyH.cons (o := ⟨some 27, .load 2 (.tmp 26), _, _, _, none⟩) rfl (fun K hK => ?_) (AllReadyH.cons (o := ⟨some 33, .call { callee := .value (.func 63), args := #[.tmp 29, .tmp 32], argTypes := #[2, 21] }, _, _, _, none⟩) rfl (fun K hK => ?_) AllReadyH.nil)
  ·have a0 : Y1.cell? ⟨ga, i * 2 + 1, none⟩ = some (.int .i64 s.2) := HC.out.z.i (flatS_at HS.out).2
   go_simp
   refine hK.out _ _ hH (fun hH2 => ?_)
   clear a0
   clear hK K hH; have hH := hH2; clear hH2
   try simp only [Act.put, List.setIfInBounds_toArray, List.set_cons_zero, List.set_cons_succ]
   refine sC 10 (fun K hK => ?_)
   go_simp
   (with_reducible refine (C2.out _).mono ?_); rintro e v2 ⟨rfl, g⟩
   replace HC := Lib.hid (HC.out.on g)
   refine hK.out _ _ (by obtain ⟨q0, q2⟩ := id hH; exact ⟨g.all q0, g.all q2⟩) (fun hH2 => ?_)
   clear g
   clear hK K hH; have hH := hH2; clear hH2
   refine sT 11 hH ?_
   refine sT 12 hH ?_
   refine sN 13 hH ?_
   refine sN 14 hH ?_
   refine sC 15 (fun K hK => ?_)
   have a0 : v2.cell? ⟨ga, i * 2 + 1, none⟩ = some (.int .i64 s.2) := HC.out.z.i (flatS_at HS.out).2
   have f0 := HC.out.z.frz (i * 2 + 1)
   have hz := HC.out.z.lt
   obtain ⟨q0, q2⟩ := id hH
   go_simp
   refine hK.out _ _ (by (try dsimp only); exact ⟨sset_far q0 (fun e => n1 e.symm), sset_far q2 (fun e => n2 e.symm)⟩) (fun hH2 => ?_)
   clear a0 f0 hz q0 q2
   clear hK K hH; have hH := hH2; clear hH2
   try simp only [Act.put, List.setIfInBounds_toArray, List.set_cons_zero, List.set_cons_succ]
   refine sE ?_
   have H9 := HC.out.sety HS.out b
   rw [List.set_set] at H9
   have H8 := Lib.hid H9
   clear H9
   go_wp2_with fail
   go_end0
   exact ⟨rfl, H8.out⟩
  ·go_simp
   (with_reducible refine (C2.out _).mono ?_); rintro e v2 ⟨rfl, g⟩
   replace HC := Lib.hid (HC.out.on g)
   refine hK.out _ _ (by obtain ⟨q0, q2⟩ := id hH; exact ⟨g.all q0, g.all q2⟩) (fun hH2 => ?_)
   clear g
   clear hK K hH; have hH := hH2; clear hH2
   refine sN 11 hH ?_
   refine sC 4 (fun K hK => ?_)
   have a0 : v2.cell? ⟨ga, i * 2 + 1, none⟩ = some (.int .i64 s.2) := HC.out.z.i (flatS_at HS.out).2
   go_simp
   refine hK.out _ _ hH (fun hH2 => ?_)
   clear a0
   clear hK K hH; have hH := hH2; clear hH2
   refine sT 12 hH ?_
   refine sT 13 hH ?_
   refine sN 14 hH ?_
   refine sC 15 (fun K hK => ?_)
   have a0 : v2.cell? ⟨ga, i * 2 + 1, none⟩ = some (.int .i64 s.2) := HC.out.z.i (flatS_at HS.out).2
   have f0 := HC.out.z.frz (i * 2 + 1)
   have hz := HC.out.z.lt
   obtain ⟨q0, q2⟩ := id hH
   go_simp
   refine hK.out _ _ (by (try dsimp only); exact ⟨sset_far q0 (fun e => n1 e.symm), sset_far q2 (fun e => n2 e.symm)⟩) (fun hH2 => ?_)
   clear a0 f0 hz q0 q2
   clear hK K hH; have hH := hH2; clear hH2
   try simp only [Act.put, List.setIfInBounds_toArray, List.set_cons_zero, List.set_cons_succ]
   refine sE ?_
   have H9 := HC.out.sety HS.out b
   rw [List.set_set] at H9
   have H8 := Lib.hid H9
   clear H9
   go_wp2_with fail
   go_end0
   exact ⟨rfl, H8.out⟩
theorem info_shiftC : (Tryz.prog.info? 101).map (fun i => (i.zero, i.size, i.bytes)) = some (some (.agg #[.int .i64 0, .int .i64 0]), 2, 16) := by kernel_rfl
theorem made_two (z : Value) (N : Nat) : madeCells #[z, z] N = ⟨List.replicate N z⟩ := by
 refine Array.ext' (List.ext_getElem? fun j => ?_)
 by_cases hj : j < N
 ·have : j % 2 = 0 ∨ j % 2 = 1 := by omega
  rcases this with e | e <;> simp [madeCells, hj, e]
 ·simp [madeCells, hj]
theorem flatS_zero : ∀ n : Nat, flatS (List.replicate n (0, 0)) = List.replicate (n * 2) (.int .i64 0)
 | 0 => rfl
 | n + 1 => by
   have e : flatS (List.replicate (n + 1) (0, 0)) = shv (0, 0) ++ flatS (List.replicate n (0, 0)) := by simp [flatS, List.replicate_succ]
   rw [e, flatS_zero n, show (n + 1) * 2 = n * 2 + 1 + 1 by omega, List.replicate_succ, List.replicate_succ]
   rfl
theorem zc_shift (W : World) (n : Nat) (t : TypeId) : ZC (W.alloc (.cells (madeCells #[.int .i64 0, .int .i64 0] (n * 2)) t)) W.heap.size (flatS (List.replicate n (0, 0))) := by
 rw [made_two, flatS_zero]
 exact zc_new _ _ _
theorem mk_shift (n : Nat) (h : n ≤ 1000) (W : World) : (Instr.makeSlice 72 (.int .i64 (n : Int)) (.int .i64 (n : Int))).run Tryz.prog W = .ok (.slice (some ⟨W.heap.size, 0, none⟩) n n) (W.alloc (.cells (madeCells #[.int .i64 0, .int .i64 0] (n * 2)) 101)) := by
 obtain ⟨i0, hi, hz0, hz1, hz2⟩ := info_parts info_shiftC
 have r := run_make (P := Tryz.prog) W 72 101 i0 _ Tryz.underlying72 hi hz0 .i64 .i64 (n : Int) (n : Int) (by omega) (Int.le_refl _) (by rw [hz2]; omega) (by omega)
 rw [hz1, Int.toNat_natCast] at r
 exact r
theorem sq_shift {w : World} {g cap n : Nat} {D : List Sh} (h : ZC w g (flatS D)) (hn : D.length = n) : Sq shv 2 w (.slice (some ⟨g, 0, none⟩) n cap) D := by
 subst hn
 refine ⟨_, cap, rfl, fun k x hx => ⟨g, 0, rfl, fun i u hu => ?_⟩⟩
 have hi : i < 2 := by
  have := (List.getElem?_eq_some_iff.1 hu).1
  rwa [shv_len] at this
 rw [Nat.zero_add]
 refine h.i ?_
 rw [← hu]
 exact cat_get shv_len D k x hx i hi
theorem za_fro {w w' : World} {a b : Nat} {vs : List Value} (h : ZA w b vs) (f : FrO a a w w') (n : b ≠ a) : ZA w' b vs := fun i hi => by
 have e := h i hi
 rw [List.getElem?_eq_getElem hi] at e ⊢
 exact f.cell n n e
theorem ze_fro {w w' : World} {a g o : Nat} {vs : List Value} (h : ZE w g o vs) (f : FrO a a w w') (n : g ≠ a) (hl : 0 < vs.length := by exact Nat.zero_lt_succ _) : ZE w' g o vs := ze_of (fun i hi => by
 have e := h.2 i hi
 rw [List.getElem?_eq_getElem hi] at e ⊢
 exact f.cell n n e) hl
theorem shfL_nil (L : List Bd) : shfL L [] = List.replicate L.length (0, 0) := by
 unfold shfL
 rw [show shfB L [] = fun _ => (0, 0) from rfl, List.map_const']
theorem shfL_at {L : List Bd} {C : List Ct} {i : Nat} {x : Bd} (h : L[i]? = some x) : (shfL L C)[i]? = some (shfB L C x) := by
 unfold shfL
 rw [List.getElem?_map, h]
 rfl
theorem shfL_next {L : List Bd} {C : List Ct} {c : Ct} (hA : Asc L) {ja jb : Nat} {a b : Bd} (ha : L[ja]? = some a) (hb : L[jb]? = some b) (ka : a.k = c.lo) (kb : b.k = c.hi) (hne : ja ≠ jb) (la : look L c.lo = some a) (lb : look L c.hi = some b) :
 ((shfL L C).set ja ((shfB L C a).1 - shI c.dp a b a.m * c.nx / 65536, (shfB L C a).2 - shI c.dp a b a.m * c.ny / 65536)).set jb ((shfB L C b).1 + shI c.dp a b b.m * c.nx / 65536, (shfB L C b).2 + shI c.dp a b b.m * c.ny / 65536) = shfL L (C ++ [c]) := by
 have key : ∀ (i j : Nat) (x y : Bd), L[i]? = some x → L[j]? = some y → x.k = y.k → i = j := fun i j x y hx hy e => by
  rcases Nat.lt_trichotomy i j with q | q | q
  ·have := asc_lt hA hx hy q; omega
  ·exact q
  ·have := asc_lt hA hy hx q; omega
 have one : ∀ (f : Ct → Int) x, shfI f L (C ++ [c]) x = shfI f L C x + conS f L x c := fun f x => by
  rw [shf_app]
  show _ + (conS f L x c + 0) = _
  omega
 have la' : ja < L.length := (List.getElem?_eq_some_iff.1 ha).1
 have lb' : jb < L.length := (List.getElem?_eq_some_iff.1 hb).1
 have hk : c.lo ≠ c.hi := fun e => hne (key ja jb a b ha hb (by omega))
 have hl : ∀ D, (shfL L D).length = L.length := fun D => by unfold shfL; rw [List.length_map]
 refine List.ext_getElem? fun i => ?_
 by_cases q : i = jb
 ·subst q
  rw [List.getElem?_set_self (by rw [List.length_set, hl]; exact lb'), shfL_at hb]
  unfold shfB
  have n1 : ¬ c.lo = b.k := by omega
  rw [one, one, conS_at la lb, conS_at la lb, if_neg n1, if_neg n1, if_pos kb.symm, if_pos kb.symm]
 ·rw [List.getElem?_set_ne (fun e => q e.symm)]
  by_cases p : i = ja
  ·subst p
   rw [List.getElem?_set_self (by rw [hl]; exact la'), shfL_at ha]
   unfold shfB
   rw [one, one, conS_at la lb, conS_at la lb, if_pos ka.symm, if_pos ka.symm]
   rfl
  ·rw [List.getElem?_set_ne (fun e => p e.symm)]
   cases hx : L[i]? with
   | none => unfold shfL; rw [List.getElem?_map, List.getElem?_map, hx]; rfl
   | some x =>
     rw [shfL_at hx, shfL_at hx]
     unfold shfB
     have n1 : ¬ c.lo = x.k := fun e => p (key i ja x a hx ha (by omega))
     have n2 : ¬ c.hi = x.k := fun e => q (key i jb x b hx hb (by omega))
     rw [one, one, conS_at la lb, conS_at la lb, if_neg n1, if_neg n1, if_neg n2, if_neg n2, Int.add_zero, Int.add_zero]
theorem cshf : CSf := fun v L l C w hv hl A => by
 obtain ⟨base, cap, rfl⟩ := hv.shape
 obtain ⟨bc, cc, rfl, hc⟩ := hl
 have HC := Lib.hid hc
 have HV := Lib.hid hv
 have HA := Lib.hid A
 have h40 := A.vw.len
 have hfew := A.few
 have FND : Hid (∀ (key : Int) (j : Nat) (x : Bd), lessK L key = j → look L key = some x → ∀ w', Kep w.heap.size w w' → Calls Tryz.prog 61 #[.slice base L.length cap, .int .u32 key] w' fun e w'' => e = .returned (.tuple #[.int .i64 (j : Int), .bool true]) ∧ Kep w'.heap.size w' w'') := Lib.hid fun key j x h1 h2 w' g => by
  have := vfind_some base cap L key w' (hv.kep g) (by omega) A.vw.asc
  rw [h1, h2] at this
  exact this
 have hS0 := shfL_nil L
 clear hc hv A
 obtain ⟨D0, hD0⟩ : ∃ D, D = shfL L [] := ⟨_, rfl⟩
 rw [← hD0] at hS0
 have HD0 := Lib.hid hD0
 clear hD0
 generalize hnl : L.length = n at *
 have HN := Lib.hid hnl
 have HS0 := Lib.hid hS0
 generalize hnc : C.length = nc at *
 have HNC := Lib.hid hnc
 clear hnl hnc hS0
 have hmk := mk_shift n (by omega)
 have hmf : ∀ (fn : Fn) (first cap : Array Value) (w : World), (Instr.makeFunc fn first cap).run Tryz.prog w = .ok (.func fn first cap) w := fun _ _ _ _ => rfl
 go_enter Tryz.func41, Tryz.ntmps41
 go_upto_region 1 with fail
 go_cut [5] (fun s5 wx => ∃ tb ga, s5 = .pointer (some ⟨tb, 0, none⟩) ∧ Hid (ZC wx tb [.slice (some ⟨ga, 0, none⟩) n n] ∧ SX w wx wx ga D0 ∧ tb ≠ ga))
 case first =>
  go_wp2_with fail
  go_meet
  refine ⟨w.heap.size + 1, w.heap.size, by first | rfl | simp, Lib.hid ⟨zc_new' _ _ _ (by first | rfl | simp), ⟨kep_more (kep_more (Kep.refl _ _) _) _, .refl _ _ _, Nat.le_refl _, ?_⟩, by omega⟩⟩
  rw [HS0.out]
  exact (zc_shift w n _).more _
 case rest =>
  obtain ⟨tb, ga, rfl, HT⟩ := hcut
  have nt := HT.out.2.2
  have ht0 : Hid (ZC wc tb [.slice (some ⟨ga, 0, none⟩) n n] ∧ SX w wc wc ga D0) := Lib.hid ⟨HT.out.1, HT.out.2.1⟩
  clear HT hmk HS0
  go_wp2_with fail
  go_loopw [18] (fun i wr => ∃ k : Nat, k ≤ nc ∧ i = .int .i64 k ∧ Hid (ZC wr tb [.slice (some ⟨ga, 0, none⟩) n n] ∧ SX w wr wr ga (shfL L (C.take k)))) (fun i _ => nc - (RowKit.intOf i).toNat)
  case atStart => exact ⟨0, by omega, rfl, by rw [List.take_zero, ← HD0.out]; exact ht0⟩
  case round =>
   obtain ⟨k, hk, rfl, HP⟩ := hrel
   clear ht0 HD0
   by_cases hlt : k < nc
   ·have hb : C[k]? = some (C[k]'(by rw [HNC.out]; exact hlt)) := List.getElem?_eq_getElem _
    generalize C[k]'(by rw [HNC.out]; exact hlt) = c at hb
    obtain ⟨gc, oc, rfl, q⟩ := HC.out k c hb
    have hrc := HA.out.rg c (List.mem_of_getElem? hb)
    have HVB := HA.out.vb
    obtain ⟨x, hx⟩ := Option.isSome_iff_exists.1 hrc.lo
    obtain ⟨y, hy⟩ := Option.isSome_iff_exists.1 hrc.hi
    have mx := look_some hx
    have my := look_some hy
    obtain ⟨ja, pa, ra, la⟩ := at_of_mem HA.out.vw.asc mx.1
    obtain ⟨jb, pb, rb, lb⟩ := at_of_mem HA.out.vw.asc my.1
    rw [mx.2] at ra la
    rw [my.2] at rb lb
    have hclt := hrc.lt
    have hne : ja ≠ jb := fun e => by
     rw [e, pb] at pa
     injection pa with pa
     rw [pa] at my
     have := mx.2
     have := my.2
     omega
    have vx := HVB x mx.1
    have vy := HVB y my.1
    have FL := Lib.hid (FND.out c.lo ja x ra la)
    have FH := Lib.hid (FND.out c.hi jb y rb lb)
    have S1 := Lib.hid (csh_ok (lo := c.lo) (hi := c.hi) (nx := c.nx) (ny := c.ny) false vx vy hrc.dp)
    have S2 := Lib.hid (csh_ok (lo := c.lo) (hi := c.hi) (nx := c.nx) (ny := c.ny) true vx vy hrc.dp)
    rw [if_neg (by simp)] at S1
    rw [if_pos rfl] at S2
    have sb := sh_bd hrc.dp vx vy
    have E := Lib.hid (shfL_next (C := C.take k) HA.out.vw.asc pa pb mx.2 my.2 hne hx hy)
    have hC : ∀ c ∈ C.take k, RsC L c := fun c hc => HA.out.rg c (List.mem_of_mem_take hc)
    have hCl : (C.take k).length ≤ 1000 := by rw [List.length_take]; omega
    have hAA : ∀ x ∈ L, look L x.k = some x := fun x hx => look_mem HA.out.vw.asc.once hx
    have b1 := shf_bd (f := (·.nx)) hAA HVB mx.1 hC (fun c h => (hC c h).nx) hCl
    have b2 := shf_bd (f := (·.ny)) hAA HVB mx.1 hC (fun c h => (hC c h).ny) hCl
    have b3 := shf_bd (f := (·.nx)) hAA HVB my.1 hC (fun c h => (hC c h).nx) hCl
    have b4 := shf_bd (f := (·.ny)) hAA HVB my.1 hC (fun c h => (hC c h).ny) hCl
    have q1 := (shn_bd sb.1 hrc.nx).2
    have q2 := (shn_bd sb.1 hrc.ny).2
    have q3 := (shn_bd sb.2 hrc.nx).2
    have q4 := (shn_bd sb.2 hrc.ny).2
    have ax := shfL_at (C := C.take k) pa
    have ay := shfL_at (C := C.take k) pb
    have hdl : (shfL L (C.take k)).length = n := by unfold shfL; rw [List.length_map]; exact HN.out
    obtain ⟨s1, hs1⟩ : ∃ s, s = shI c.dp x y x.m := ⟨_, rfl⟩
    obtain ⟨s2, hs2⟩ : ∃ s, s = shI c.dp x y y.m := ⟨_, rfl⟩
    rw [← hs1] at S1 E sb q1 q2
    rw [← hs2] at S2 E sb q3 q4
    have K1 := cfr_ok (n := s1) (p := c.nx) (by omega) hrc.nx
    have K2 := cfr_ok (n := s1) (p := c.ny) (by omega) hrc.ny
    have K3 := cfr_ok (n := s2) (p := c.nx) (by omega) hrc.nx
    have K4 := cfr_ok (n := s2) (p := c.ny) (by omega) hrc.ny
    generalize hP1 : ((shfB L (C.take k) x).1 - s1 * c.nx / 65536, (shfB L (C.take k) x).2 - s1 * c.ny / 65536) = p1 at E
    generalize hP2 : ((shfB L (C.take k) y).1 + s2 * c.nx / 65536, (shfB L (C.take k) y).2 + s2 * c.ny / 65536) = p2 at E
    have P1 := Lib.hid (fun (w' : World) (cb : Nat) (n2 : cb ≠ ga) (h : SX w w' w' ga (shfL L (C.take k))) ht hx hy => cpush (n := n) (ca := n) (tb := tb) (cb := cb) (sg := -1) (nx := c.nx) (ny := c.ny) (a := (shfB L (C.take k) x).1 - s1 * c.nx / 65536) (b := (shfB L (C.take k) x).2 - s1 * c.ny / 65536) (sx := -(s1 * c.nx / 65536)) (sy := -(s1 * c.ny / 65536)) h ax hdl ht hx hy nt n2 K1 K2 (by rw [IntKind.wrap_i64]; omega) (by rw [IntKind.wrap_i64]; unfold shfB; omega) (by rw [IntKind.wrap_i64]; omega) (by rw [IntKind.wrap_i64]; unfold shfB; omega))
    rw [hP1] at P1
    have P2 := Lib.hid (fun (w' : World) (cb : Nat) (n2 : cb ≠ ga) (h : SX w w' w' ga ((shfL L (C.take k)).set ja p1)) ht hx hy => cpush (n := n) (ca := n) (tb := tb) (cb := cb) (sg := 1) (nx := c.nx) (ny := c.ny) (a := (shfB L (C.take k) y).1 + s2 * c.nx / 65536) (b := (shfB L (C.take k) y).2 + s2 * c.ny / 65536) (sx := s2 * c.nx / 65536) (sy := s2 * c.ny / 65536) h (by rw [List.getElem?_set_ne hne]; exact ay) (by rw [List.length_set]; exact hdl) ht hx hy nt n2 K3 K4 (by rw [IntKind.wrap_i64]; omega) (by rw [IntKind.wrap_i64]; unfold shfB; omega) (by rw [IntKind.wrap_i64]; omega) (by rw [IntKind.wrap_i64]; unfold shfB; omega))
    rw [hP2, E.out] at P2
    have TK : Hid (shfL L (C.take (k + 1)) = shfL L (C.take k ++ [c])) := Lib.hid (by rw [List.take_add_one, hb]; rfl)
    obtain ⟨gl, off, rfl, qx⟩ := HV.out.at_ pa
    have qy : ∀ q, q < 10 → w.cell? ⟨gl, off + jb * 10 + q, none⟩ = (vals y)[q]? := by
     obtain ⟨_, _, e, q⟩ := HV.out.at_ pb
     injection e with e
     injection e with e1 e2
     subst e1 e2
     exact q
    have HQ := Lib.hid (And.intro qx qy)
    have i0 : (0 : Int) ≤ (ja : Int) := Int.natCast_nonneg _
    have i1 : (ja : Int) < (n : Int) := by have := (List.getElem?_eq_some_iff.1 pa).1; rw [HN.out] at this; omega
    have i2 : (0 : Int) ≤ (jb : Int) := Int.natCast_nonneg _
    have i3 : (jb : Int) < (n : Int) := by have := (List.getElem?_eq_some_iff.1 pb).1; rw [HN.out] at this; omega
    have j0 : (0 : Int) ≤ (k : Int) := Int.natCast_nonneg _
    have j1 : (k : Int) < (nc : Int) := by omega
    have kp := HP.out.2.kep
    have u0 : wr.cell? ⟨gc, oc + k * 5, none⟩ = some (.int .u32 c.lo) := kp.all (q 0 _ rfl)
    have u1 : wr.cell? ⟨gc, oc + k * 5 + 1, none⟩ = some (.int .u32 c.hi) := kp.all (q 1 _ rfl)
    have u2 : wr.cell? ⟨gc, oc + k * 5 + 2, none⟩ = some (.int .i32 c.nx) := kp.all (q 2 _ rfl)
    have u3 : wr.cell? ⟨gc, oc + k * 5 + 3, none⟩ = some (.int .i32 c.ny) := kp.all (q 3 _ rfl)
    have u4 : wr.cell? ⟨gc, oc + k * 5 + 4, none⟩ = some (.int .i32 c.dp) := kp.all (q 4 _ rfl)
    have hgl := HP.out.2.z.lt
    have hwr := HP.out.1.lt
    clear hb q hrc HVB hx hy mx my pa ra la pb rb lb hclt hne vx vy sb E hC hCl hAA b1 b2 b3 b4 q1 q2 q3 q4 ax ay hdl hs1 hs2 K1 K2 K3 K4 hP1 hP2 qx qy
    generalize shfL L (C.take k) = D at *
    generalize shfL L (C.take k ++ [c]) = D2 at *
    go_upto_region 9 with (first
     | ((with_reducible refine (FL.out _ (kep_more kp _)).mono ?_); rintro e w1 ⟨rfl, g1⟩
        have Zc : ZA w1 wr.heap.size [.int .u32 c.lo, .int .u32 c.hi, .int .i32 c.nx, .int .i32 c.ny, .int .i32 c.dp] := za_kep (za_new _ _ _ rfl) g1
        have gg := kep_next (kep_more (Kep.refl _ _) _) g1)
     | ((with_reducible refine (FH.out _ (kp.trans (gg.mono kp.size))).mono ?_); rintro e w2 ⟨rfl, g2⟩
        replace gg := kep_next gg g2
        replace Zc := za_kep Zc g2))
    clear u0 u1 u2 u3 u4
    have n2 : wr.heap.size ≠ ga := by omega
    have HXW : Hid (SX w w2 w2 ga D) := Lib.hid (HP.out.2.on gg).start
    have ZT : Hid (ZC w2 tb [.slice (some ⟨ga, 0, none⟩) n n]) := Lib.hid (HP.out.1.kep gg)
    replace gg := kp.trans (gg.mono kp.size)
    clear HP kp hgl hwr
    generalize wr.heap.size = cb at *
    have Zx : ZE w2 gl (off + ja * 10) [.int .u32 x.k, .int .i32 x.r, .int .i32 x.ax, .int .i32 x.ay, .int .i32 x.m, .int .i32 x.o, .int .i32 x.px, .int .i32 x.py, .int .i32 x.vx, .int .i32 x.vy] := ze_kep (ze_of HQ.out.1) gg
    have Zy : ZE w2 gl (off + jb * 10) [.int .u32 y.k, .int .i32 y.r, .int .i32 y.ax, .int .i32 y.ay, .int .i32 y.m, .int .i32 y.o, .int .i32 y.px, .int .i32 y.py, .int .i32 y.vx, .int .i32 y.vy] := ze_kep (ze_of HQ.out.2) gg
    have n3 : gl ≠ ga := by have := HXW.out.lg; have := World.block_lt_of_cell? _ _ (HQ.out.1 0 (by decide)); dsimp only at this; omega
    refine wp_region_noPanic ?_
    refine wp_region_held_drew (S := (fun w' => ZA w' cb [.int .u32 c.lo, .int .u32 c.hi, .int .i32 c.nx, .int .i32 c.ny, .int .i32 c.dp] ∧ ZE w' gl (off + ja * 10) [.int .u32 x.k, .int .i32 x.r, .int .i32 x.ax, .int .i32 x.ay, .int .i32 x.m, .int .i32 x.o, .int .i32 x.px, .int .i32 x.py, .int .i32 x.vx, .int .i32 x.vy] ∧ ZE w' gl (off + jb * 10) [.int .u32 y.k, .int .i32 y.r, .int .i32 y.ax, .int .i32 y.ay, .int .i32 y.m, .int .i32 y.o, .int .i32 y.px, .int .i32 y.py, .int .i32 y.vx, .int .i32 y.vy] ∧ Kep w.heap.size w w')) (by kernel_rfl) (⟨za_kep Zc (kep_drew (Kep.refl _ _)), ze_kep Zx (kep_drew (Kep.refl _ _)), ze_kep Zy (kep_drew (Kep.refl _ _)), kep_drew gg⟩) (fun hH => ?_)
    clear Zc Zx Zy gg
    replace HXW := Lib.hid (HXW.out.on (kep_drew (Kep.refl _ _))).start
    replace ZT := Lib.hid ZT.out.drew
    generalize w2.drew = Y0 at *
    refine sT 0 hH ?_
    refine sT 1 hH ?_
    refine sN 2 hH ?_
    refine sT 3 hH ?_
    refine sT 4 hH ?_
    refine sT 5 hH ?_
    refine sN 6 hH ?_
    refine sT 7 hH ?_
    refine sT 8 hH ?_
    refine sT 9 hH ?_
    refine sN 10 hH ?_
    refine sC 11 (fun K hK => ?_)
    go_simp
    (with_reducible refine (S1.out _).mono ?_); rintro e v11 ⟨rfl, g⟩
    replace HXW := Lib.hid (HXW.out.on g).start
    replace ZT := Lib.hid (ZT.out.kep g)
    refine hK.out _ _ ⟨za_kep hH.1 g, ze_kep hH.2.1 g, ze_kep hH.2.2.1 g, kep_next hH.2.2.2 g⟩ (fun hH2 => ?_)
    clear g
    clear hK K hH; have hH := hH2; clear hH2
    try simp only [Act.put, List.setIfInBounds_toArray, List.set_cons_zero, List.set_cons_succ]
    refine sC 12 (fun K hK => ?_)
    have t0 := ZT.out.i (i := 0) rfl
    go_simp
    (with_reducible refine (P1.out _ _ n2 HXW.out t0 (za_at hH.1 rfl) (za_at hH.1 rfl)).mono ?_); rintro e v12 ⟨rfl, h6⟩
    have ZT2 := Lib.hid (h6.fr.zc nt nt ZT.out)
    have HX2 := Lib.hid h6.start
    refine hK.out _ _ ⟨za_fro hH.1 h6.fr n2, ze_fro hH.2.1 h6.fr n3, ze_fro hH.2.2.1 h6.fr n3, h6.kep⟩ (fun hH2 => ?_)
    clear ZT HXW t0 h6
    have ZT := ZT2
    have HXW := HX2
    clear ZT2 HX2
    clear hK K hH; have hH := hH2; clear hH2
    try simp only [Act.put, List.setIfInBounds_toArray, List.set_cons_zero, List.set_cons_succ]
    refine sE ?_
    obtain ⟨Zc, Zx, Zy, gg⟩ := hH
    go_upto_region 10 with fail
    refine wp_region_noPanic ?_
    refine wp_region_held_drew (S := (fun w' => ZA w' cb [.int .u32 c.lo, .int .u32 c.hi, .int .i32 c.nx, .int .i32 c.ny, .int .i32 c.dp] ∧ ZE w' gl (off + ja * 10) [.int .u32 x.k, .int .i32 x.r, .int .i32 x.ax, .int .i32 x.ay, .int .i32 x.m, .int .i32 x.o, .int .i32 x.px, .int .i32 x.py, .int .i32 x.vx, .int .i32 x.vy] ∧ ZE w' gl (off + jb * 10) [.int .u32 y.k, .int .i32 y.r, .int .i32 y.ax, .int .i32 y.ay, .int .i32 y.m, .int .i32 y.o, .int .i32 y.px, .int .i32 y.py, .int .i32 y.vx, .int .i32 y.vy] ∧ Kep w.heap.size w w')) (by kernel_rfl) (⟨za_kep Zc (kep_drew (Kep.refl _ _)), ze_kep Zx (kep_drew (Kep.refl _ _)), ze_kep Zy (kep_drew (Kep.refl _ _)), kep_drew gg⟩) (fun hH => ?_)
    clear Zc Zx Zy gg
    replace HXW := Lib.hid (HXW.out.on (kep_drew (Kep.refl _ _))).start
    replace ZT := Lib.hid ZT.out.drew
    generalize v12.drew = Y1 at *
    refine sT 0 hH ?_
    refine sT 1 hH ?_
    refine sN 2 hH ?_
    refine sT 3 hH ?_
    refine sT 4 hH ?_
    refine sT 5 hH ?_
    refine sN 6 hH ?_
    refine sT 7 hH ?_
    refine sT 8 hH ?_
    refine sT 9 hH ?_
    refine sN 10 hH ?_
    refine sC 11 (fun K hK => ?_)
    go_simp
    (with_reducible refine (S2.out _).mono ?_); rintro e v21 ⟨rfl, g⟩
    replace HXW := Lib.hid (HXW.out.on g).start
    replace ZT := Lib.hid (ZT.out.kep g)
    refine hK.out _ _ ⟨za_kep hH.1 g, ze_kep hH.2.1 g, ze_kep hH.2.2.1 g, kep_next hH.2.2.2 g⟩ (fun hH2 => ?_)
    clear g
    clear hK K hH; have hH := hH2; clear hH2
    try simp only [Act.put, List.setIfInBounds_toArray, List.set_cons_zero, List.set_cons_succ]
    refine sC 12 (fun K hK => ?_)
    have t0 := ZT.out.i (i := 0) rfl
    go_simp
    (with_reducible refine (P2.out _ _ n2 HXW.out t0 (za_at hH.1 rfl) (za_at hH.1 rfl)).mono ?_); rintro e v22 ⟨rfl, h6⟩
    have ZT2 := Lib.hid (h6.fr.zc nt nt ZT.out)
    have HX2 := Lib.hid h6.start
    refine hK.out _ _ ⟨za_fro hH.1 h6.fr n2, ze_fro hH.2.1 h6.fr n3, ze_fro hH.2.2.1 h6.fr n3, h6.kep⟩ (fun hH2 => ?_)
    clear ZT HXW t0 h6
    have ZT := ZT2
    have HXW := HX2
    clear ZT2 HX2
    clear hK K hH; have hH := hH2; clear hH2
    try simp only [Act.put, List.setIfInBounds_toArray, List.set_cons_zero, List.set_cons_succ]
    refine sE ?_
    clear hH
    go_wp2_with fail
    go_roundw
    case rel => exact ⟨k + 1, by omega, by first | rfl | go_num, Lib.hid ⟨ZT.out, by rw [TK.out]; exact HXW.out⟩⟩
    case measure => simp [RowKit.intOf]; omega
   ·have i2 : ¬ (k : Int) < (nc : Int) := by omega
    obtain rfl : k = nc := by omega
    have t0 := HP.out.1.i (i := 0) rfl
    have h9 := HP.out.2
    rw [List.take_of_length_le (Nat.le_of_eq HNC.out)] at h9
    have H9 := Lib.hid h9
    clear h9 HP
    go_wp2_with fail
    go_ret
    exact ⟨_, rfl, ⟨sq_shift H9.out.z (by unfold shfL; rw [List.length_map]; exact HN.out), fun b m c e => by injection e with _ e1 e2; omega⟩, H9.out.kep⟩
def conP (L : List Bd) (p : Int × Int) : List Ct := match look L p.1, look L p.2 with
 | some x, some y => if tchB x y = true then [conC x y] else []
 | _, _ => []
theorem conP_at {L : List Bd} (h : Asc L) {x y : Bd} (hx : x ∈ L) (hy : y ∈ L) : conP L (x.k, y.k) = if tchB x y = true then [conC x y] else [] := by
 unfold conP
 dsimp only
 rw [look_mem h.once hx, look_mem h.once hy]
theorem conP_one {L : List Bd} (h : Asc L) {x : Bd} (hx : x ∈ L) : ∀ m : List Bd, (∀ y ∈ m, y ∈ L) → (m.map fun y => (x.k, y.k)).flatMap (conP L) = (m.filter (tchB x)).map (conC x)
 | [], _ => rfl
 | y :: m, hm => by
   have ih := conP_one h hx m (fun z hz => hm z (by simp [hz]))
   rw [List.map_cons, List.flatMap_cons, ih, conP_at h hx (hm y (by simp))]
   by_cases c : tchB x y = true
   ·rw [if_pos c, List.filter_cons_of_pos c, List.map_cons]
    rfl
   ·rw [if_neg c, List.filter_cons_of_neg c]
    rfl
theorem conP_sub {L : List Bd} (h : Asc L) (hk : ∀ x ∈ L, okC x) : ∀ l : List Bd, (∀ y ∈ l, y ∈ L) → (pairsL l).flatMap (conP L) = consL l
 | [], _ => rfl
 | x :: l, hl => by
   have ih := conP_sub h hk l (fun z hz => hl z (by simp [hz]))
   have hx := hl x (by simp)
   show (prO x l ++ pairsL l).flatMap (conP L) = conO x l ++ consL l
   rw [List.flatMap_append, ih, conO_pr (hk x hx) (fun y hy => hk y (hl y (by simp [hy])))]
   unfold prO
   rw [conP_one h hx _ (fun y hy => hl y (by simp [(List.mem_filter.1 hy).1]))]
theorem conP_all {L : List Bd} (h : Asc L) (hk : ∀ x ∈ L, okC x) : (pairsL L).flatMap (conP L) = consL L := conP_sub h hk L (fun _ hy => hy)
theorem conP_snoc {L : List Bd} {C : List (Int × Int)} {j : Nat} {p : Int × Int} (h : C[j]? = some p) : (C.take (j + 1)).flatMap (conP L) = (C.take j).flatMap (conP L) ++ conP L p := by
 rw [List.take_add_one, h, List.flatMap_append]
 simp
theorem conP_le (L : List Bd) (p : Int × Int) : (conP L p).length ≤ 1 := by
 unfold conP
 split
 ·split <;> simp
 ·simp
theorem conP_len (L : List Bd) : ∀ C : List (Int × Int), (C.flatMap (conP L)).length ≤ C.length
 | [] => by simp
 | p :: C => by
   have h1 := conP_le L p
   have h2 := conP_len L C
   rw [List.flatMap_cons, List.length_append, List.length_cons]
   omega
abbrev CAll : Prop := ∀ v L w, Fac w → Lst w v L → Vw L → Calls Tryz.prog 36 #[v] w fun e w' => ∃ v' n, e = .returned (.tuple #[v', .int .i64 n]) ∧ (Sq ctv 5 w' v' (consL L) ∧ ((consL L).length : Int) ≤ n ∧ 2 * n ≤ (L.length : Int) * ((L.length : Int) - 1) ∧ Rmy v') ∧ Kep w.heap.size w w'
theorem okc_of {L : List Bd} (h : Vw L) : ∀ x ∈ L, okC x := fun x hx => h.ok x hx
end Go.Proofs.YtaknmlohnifcdaaGreatDoor
