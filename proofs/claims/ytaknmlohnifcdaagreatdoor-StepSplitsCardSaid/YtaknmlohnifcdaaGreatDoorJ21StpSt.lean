import Derived.Test.YtaknmlohnifcdaaGreatDoorJ19CtsMath
import Derived.Test.YtaknmlohnifcdaaGreatDoorFrO
import Derived.Test.YtaknmlohnifcdaaGreatDoorJ02Seq
import Derived.Test.YtaknmlohnifcdaaGreatDoorJ00Bits
import Derived.Deep.DeepCutAuto
import Derived.Deep.QuietTactic
import Derived.BigQuiet
import Derived.Test.YtaknmlohnifcdaaGreatDoorCtsRef
import Derived.Test.YtaknmlohnifcdaaGreatDoorJ18ViewMath

/-! J21StpSt: StpSt, CorOps1, CorOps2, CtsCol, CtsCon. -/

section
/-
  Package step: the state of a step in memory; shifts of bodies with other velocities (no program).
-/
namespace Go.Proofs.YtaknmlohnifcdaaGreatDoor
open Go.RowKit Go.Lib

/-- A map that keeps keys and inverse masses keeps the shifts. -/
theorem shf_mapM {g : Bd → Bd} (hk : ∀ x, (g x).k = x.k) (hm : ∀ x, (g x).m = x.m) {L : List Bd} {C : List Ct} (h : ∀ c ∈ C, RgC L c) : shfL (L.map g) C = shfL L C := by
  unfold shfL
  rw [List.map_map]
  refine List.map_congr_left fun x _ => ?_
  have e : ∀ f : Ct → Int, shfI f (L.map g) C (g x) = shfI f L C x := fun f => by
    unfold shfI
    refine congrArg isum (List.map_congr_left fun c hc => ?_)
    obtain ⟨a, ha⟩ := Option.isSome_iff_exists.1 (h c hc).lo
    obtain ⟨b, hb⟩ := Option.isSome_iff_exists.1 (h c hc).hi
    have ga : look (L.map g) c.lo = some (g a) := by rw [look_map hk, ha]; rfl
    have gb : look (L.map g) c.hi = some (g b) := by rw [look_map hk, hb]; rfl
    have s : shI c.dp (g a) (g b) (g x).m = shI c.dp a b x.m := by unfold shI amI; rw [hm, hm, hm]
    rw [conS_at ga gb, conS_at ha hb, s, hk]
  show shfB (L.map g) C (g x) = shfB L C x
  unfold shfB
  rw [e, e]
theorem shf_slv {L : List Bd} {C : List Ct} (h : ∀ c ∈ C, RgC L c) : ∀ n, shfL (slvN C L n).1 C = shfL L C
  | 0 => rfl
  | n + 1 => (shf_mapM (g := rndB (slvN C L n).1 C) (fun _ => rfl) (fun _ => rfl) (fun c hc => rgc_slv (h c hc) n)).trans (shf_slv h n)
theorem grvB_m (x : Bd) : (grvB x).m = x.m := by unfold grvB; split <;> rfl
theorem shf_V {L : List Bd} (h : Vw L) : shfL (stpV L) (consL L) = stpS L :=
  (shf_slv (jarg_stp h).rg 4).trans (shf_mapM grvB_k grvB_m fun c hc => (rsc_cons h c hc).toRgC)
theorem sarg_V {L : List Bd} (h : Vw L) : SArg (stpV L) (consL L) := ⟨vw_V h, few_cons h, fun c hc => ⟨rgc_slv ((jarg_stp h).rg c hc) 4, (rsc_cons h c hc).dp⟩⟩
theorem sin_arg {L : List Bd} {C : List Ct} (h : SArg L C) : ∀ s ∈ shfL L C, Sin s := fun s hs => by
  unfold shfL at hs
  obtain ⟨x, hx, rfl⟩ := List.mem_map.1 hs
  have hA : ∀ x ∈ L, look L x.k = some x := fun x hx => look_mem h.vw.asc.once hx
  have b1 := shf_bd (f := (·.nx)) hA h.vb hx h.rg (fun c hc => (h.rg c hc).nx) h.few
  have b2 := shf_bd (f := (·.ny)) hA h.vb hx h.rg (fun c hc => (h.rg c hc).ny) h.few
  unfold shfB
  exact ⟨⟨by dsimp only; omega, by dsimp only; omega⟩, by dsimp only; omega, by dsimp only; omega⟩
theorem vw_single {x : Bd} (h : okI x) (k : (Lit.int .u32 x.k).wf = true) : Vw [x] :=
  ⟨⟨fun y hy => by simp at hy, trivial⟩, fun y hy => by rw [List.mem_singleton.1 hy]; exact h, fun y hy => by rw [List.mem_singleton.1 hy]; exact k, by simp⟩
theorem sarg_single {x : Bd} (h : okI x) (k : (Lit.int .u32 x.k).wf = true) : SArg [x] [] := ⟨vw_single h k, by decide, fun c hc => by simp at hc⟩
/-- The cells of a state: the view, the contacts, the statistics. -/
abbrev stv (v f : Value) (t c : Int) (z : Bool) : List Value := [v, f, .int .i64 t, .int .i64 c, .bool z]
/-- A state at block sb, whose cells are these and no others. -/
structure SB (w : World) (sb : Nat) (vs : List Value) : Prop where
  ex : ∀ i, w.cell? ⟨sb, i, none⟩ = vs[i]?
  frz : ∀ i, w.frozen? ⟨sb, i, none⟩ = false
  lt : sb < w.heap.size
theorem SB.zc {w : World} {sb : Nat} {vs : List Value} (h : SB w sb vs) : ZC w sb vs := ⟨fun i _ hu => (h.ex i).trans hu, h.frz, h.lt⟩
theorem SB.kep {w w' : World} {sb : Nat} {vs : List Value} (h : SB w sb vs) (g : Kep w.heap.size w w') : SB w' sb vs :=
  ⟨fun i => (World.cell?_of_block (w := w) (g.block sb h.lt)).trans (h.ex i), fun i => (World.frozen?_of_block (w := w) (g.block sb h.lt)).trans (h.frz i), Nat.lt_of_lt_of_le h.lt g.size⟩
theorem SB.fro {a b sb : Nat} {w w' : World} {vs : List Value} (h : SB w sb vs) (f : FrO a b w w') (n1 : sb ≠ a) (n2 : sb ≠ b) : SB w' sb vs :=
  ⟨fun i => (World.cell?_of_block (w := w) (f.block sb h.lt n1 n2)).trans (h.ex i), fun i => (World.frozen?_of_block (w := w) (f.block sb h.lt n1 n2)).trans (h.frz i), Nat.lt_of_lt_of_le h.lt f.size⟩
theorem sb_new (w : World) (l : List Value) (t : TypeId) : SB (w.alloc (.cells ⟨l⟩ t)) w.heap.size l :=
  ⟨fun i => by rw [World.cell?_alloc_at _ _ _ _ rfl]; simp, fun _ => World.frozen?_alloc_at _ _ _ _ rfl, by simp⟩
theorem sb_new' (w : World) (l : List Value) (t : TypeId) {b : Nat} (h : b = w.heap.size) : SB (w.alloc (.cells ⟨l⟩ t)) b l := by subst h; exact sb_new w l t
theorem SB.put {w : World} {sb : Nat} {vs : List Value} (h : SB w sb vs) {i : Nat} (u : Value) (hi : i < vs.length) : SB (w.setCell ⟨sb, i, none⟩ u) sb (vs.set i u) := by
  refine ⟨fun j => ?_, fun j => by rw [World.frozen?_setCell]; exact h.frz j, by rw [World.size_setCell]; exact h.lt⟩
  by_cases c : j = i
  · subst c
    rw [List.getElem?_set_self hi]
    exact World.cell?_setCell_same' _ _ _ (by rw [h.ex j, List.getElem?_eq_getElem hi]; rfl)
  · rw [List.getElem?_set_ne (fun e => c e.symm), World.cell?_setCell_other (h := by intro e; injection e with _ e2; omega)]
    exact h.ex j
/-- A number of another kind lies in no state. -/
theorem SB.apart {w : World} {sb b o : Nat} {k : Int} {vs : List Value} (h : SB w sb vs) (hv : ∀ u ∈ vs, ∀ k : Int, u ≠ .int .u32 k) (e : w.cell? ⟨b, o, none⟩ = some (.int .u32 k)) : b ≠ sb := fun q => by
  subst q
  rw [h.ex o] at e
  exact hv _ (List.mem_of_getElem? e) k rfl
theorem stv_no {x y : Option Addr} {m n p q : Nat} {t c : Int} {z : Bool} : ∀ u ∈ stv (.slice x m p) (.slice y n q) t c z, ∀ k : Int, u ≠ .int .u32 k := by simp
theorem sum_no {t c : Int} {z : Bool} : ∀ u ∈ [Value.int .i64 t, .int .i64 c, .bool z], ∀ k : Int, u ≠ .int .u32 k := by simp
/-- A view, contacts: apart from a state that is written. -/
theorem lst_fro {w w' : World} {sb : Nat} {v : Value} {L : List Bd} {vs : List Value} (h : Lst w v L) (S : SB w sb vs) (hv : ∀ u ∈ vs, ∀ k : Int, u ≠ .int .u32 k) (f : FrO sb sb w w') : Lst w' v L := by
  rcases h with h | ⟨g, off, cap, e, hc⟩
  · exact .inl h
  · refine .inr ⟨g, off, cap, e, fun k b hb i hi => ?_⟩
    have n : g ≠ sb := S.apart hv (k := b.k) ((hc k b hb 0 (by decide)).trans rfl)
    have e := hc k b hb i hi
    have hl : i < (vals b).length := hi
    rw [List.getElem?_eq_getElem hl] at e ⊢
    exact f.cell n n e
theorem sqc_fro {w w' : World} {sb : Nat} {v : Value} {C : List Ct} {vs : List Value} (h : Sq ctv 5 w v C) (S : SB w sb vs) (hv : ∀ u ∈ vs, ∀ k : Int, u ≠ .int .u32 k) (f : FrO sb sb w w') : Sq ctv 5 w' v C := by
  obtain ⟨base, cap, rfl, hc⟩ := h
  refine ⟨base, cap, rfl, fun k x hx => ?_⟩
  obtain ⟨g, off, e, hi⟩ := hc k x hx
  have n : g ≠ sb := S.apart hv (k := x.lo) (hi 0 _ rfl)
  exact ⟨g, off, e, fun i u hu => f.cell n n (hi i u hu)⟩
end Go.Proofs.YtaknmlohnifcdaaGreatDoor
end

section
/-
  Package correct: fraction, Amount, Share.
-/
namespace Go.Proofs.YtaknmlohnifcdaaGreatDoor
open Go.RowKit Go.Lib

abbrev KFr (n p t : Int) : Prop := ∀ w, Calls Tryz.prog 63 #[.int .i64 n, .int .i32 p] w fun e w' => e = .returned (.int .i64 t) ∧ Kep w.heap.size w w'
abbrev KMdC (a b c t e : Int) : Prop := ∀ w, Calls Tryz.prog 81 #[.int .i64 a, .int .i64 b, .int .i64 c] w fun f w' => f = .returned (.tuple #[.int .i64 t, .int .i64 e]) ∧ Kep w.heap.size w w'
abbrev KMsC (a b t e : Int) : Prop := ∀ w, Calls Tryz.prog 80 #[.int .i64 a, .int .i64 b, .int .i64 16] w fun f w' => f = .returned (.tuple #[.int .i64 t, .int .i64 e]) ∧ Kep w.heap.size w w'
theorem kmsC {a b : Int} (ha : I64 a) (hb : I64 b) (h1 : -9223372036854775808 ≤ a * b / 65536) (h2 : a * b / 65536 < 9223372036854775808) : KMsC a b (a * b / 65536) (mse a b 16) := fun w => by
  have e := msv_16 h1 h2
  have := kep_calls (mulshift_any a b 16 ha hb w)
  rw [e] at this
  exact this
set_option maxRecDepth 100000 in
set_option maxHeartbeats 1000000 in
theorem cfr {n p t e : Int} (hp : IntKind.i64.wrap p = p) (X1 : KMsC n p t e) : KFr n p t := fun w => by
  have C1 := Lib.hid X1
  clear X1
  go_enter Tryz.func63, Tryz.ntmps63
  go_wp2_with ((with_reducible refine (C1.out _).mono ?_); rintro e w1 ⟨rfl, g1⟩)
  go_ret
  exact ⟨rfl, g1⟩
theorem cfr_ok {n p : Int} (hn : -16777216 ≤ n ∧ n ≤ 16777216) (hp : Nr p) : KFr n p (n * p / 65536) := by
  have b := mul_bd (a := n) (b := p) (A := 16777216) (B := 65536) hn hp
  exact cfr (by rw [IntKind.wrap_i64]; omega) (kmsC (by unfold I64; omega) (by unfold I64; omega) (by omega) (by omega))
set_option maxRecDepth 100000 in
set_option maxHeartbeats 1000000 in
theorem cam0 {lo hi nx ny dp : Int} {x y : Bd} (h0 : decide (dp ≤ 1024) = true) : CAm lo hi nx ny dp x y 0 := fun w => by
  go_enter Tryz.func82, Tryz.ntmps82
  go_wp2_with fail
  go_ret
  exact ⟨rfl, (kep_more (kep_more (kep_more (Kep.refl _ _) _) _) _)⟩
set_option maxRecDepth 100000 in
set_option maxHeartbeats 1000000 in
theorem cam1 {lo hi nx ny dp : Int} {x y : Bd} (h0 : decide (dp ≤ 1024) = false) (h1 : (x.m == 0) = true) (h2 : (y.m == 0) = true) : CAm lo hi nx ny dp x y 0 := fun w => by
  go_enter Tryz.func82, Tryz.ntmps82
  go_wp2_with fail
  go_ret
  exact ⟨rfl, (kep_more (kep_more (kep_more (Kep.refl _ _) _) _) _)⟩
set_option maxRecDepth 100000 in
set_option maxHeartbeats 1000000 in
theorem cam2 {lo hi nx ny dp u t : Int} {x y : Bd} (h0 : decide (dp ≤ 1024) = false) (h1 : (x.m == 0) = true) (h2 : (y.m == 0) = false) (e1 : IntKind.i64.wrap dp = dp) (e2 : IntKind.i64.wrap (dp - 1024) = u) (X1 : KFr u 26214 t) : CAm lo hi nx ny dp x y t := fun w => by
  have C1 := Lib.hid X1
  clear X1
  go_enter Tryz.func82, Tryz.ntmps82
  go_wp2_with (first
    | ((with_reducible refine (C1.out _).mono ?_); rintro e w1 ⟨rfl, g1⟩
       have gg := kep_next (kep_more (kep_more (kep_more (Kep.refl _ _) _) _) _) g1))
  go_ret
  exact ⟨rfl, gg⟩
set_option maxRecDepth 100000 in
set_option maxHeartbeats 1000000 in
theorem cam3 {lo hi nx ny dp u t : Int} {x y : Bd} (h0 : decide (dp ≤ 1024) = false) (h1 : (x.m == 0) = false) (e1 : IntKind.i64.wrap dp = dp) (e2 : IntKind.i64.wrap (dp - 1024) = u) (X1 : KFr u 26214 t) : CAm lo hi nx ny dp x y t := fun w => by
  have C1 := Lib.hid X1
  clear X1
  go_enter Tryz.func82, Tryz.ntmps82
  go_wp2_with (first
    | ((with_reducible refine (C1.out _).mono ?_); rintro e w1 ⟨rfl, g1⟩
       have gg := kep_next (kep_more (kep_more (kep_more (Kep.refl _ _) _) _) _) g1))
  go_ret
  exact ⟨rfl, gg⟩
theorem cam_ok {lo hi nx ny dp : Int} {x y : Bd} (hx : Vb x) (hy : Vb y) (hd : Dp dp) : CAm lo hi nx ny dp x y (amI dp x y) := by
  have m0 := hx.m0
  have m1 := hy.m0
  unfold amI
  by_cases c0 : dp ≤ 1024
  · rw [if_pos (.inl c0)]
    exact cam0 (decide_eq_true c0)
  · have w1 : IntKind.i64.wrap dp = dp := by rw [IntKind.wrap_i64]; omega
    have w2 : IntKind.i64.wrap (dp - 1024) = dp - 1024 := by rw [IntKind.wrap_i64]; omega
    have k := cfr_ok (n := dp - 1024) (p := 26214) (by omega) ⟨by omega, by omega⟩
    by_cases c1 : x.m = 0
    · by_cases c2 : y.m = 0
      · rw [if_pos (.inr (by omega))]
        exact cam1 (decide_eq_false c0) (beq_iff_eq.2 c1) (beq_iff_eq.2 c2)
      · rw [if_neg (by omega)]
        exact cam2 (decide_eq_false c0) (beq_iff_eq.2 c1) (beq_eq_false_iff_ne.2 c2) w1 w2 k
    · rw [if_neg (by omega)]
      exact cam3 (decide_eq_false c0) (beq_eq_false_iff_ne.2 c1) w1 w2 k
set_option maxRecDepth 100000 in
set_option maxHeartbeats 2000000 in
theorem csh_false {lo hi nx ny dp n s t e : Int} {x y : Bd} (X1 : CAm lo hi nx ny dp x y n) (X2 : KMdC n x.m s t e) (e1 : IntKind.i64.wrap x.m = x.m) (e2 : IntKind.i64.wrap y.m = y.m) (e3 : IntKind.i64.wrap (x.m + y.m) = s) : CSh lo hi nx ny dp x y false t := fun w => by
  have C1 := Lib.hid X1
  have C2 := Lib.hid X2
  clear X1 X2
  go_enter Tryz.func64, Tryz.ntmps64
  go_upto_region 4 with fail
  generalize hW : World.alloc (World.alloc (World.alloc w _) _) _ = W1
  have Zc : ZC W1 (w.heap.size) [.int .u32 lo, .int .u32 hi, .int .i32 nx, .int .i32 ny, .int .i32 dp] := by rw [← hW]; exact (ZC.more (ZC.more (zc_new' _ _ _ (by first | rfl | simp)) _) _)
  have Zx : ZC W1 (w.heap.size + 1) [.int .u32 x.k, .int .i32 x.r, .int .i32 x.ax, .int .i32 x.ay, .int .i32 x.m, .int .i32 x.o, .int .i32 x.px, .int .i32 x.py, .int .i32 x.vx, .int .i32 x.vy] := by rw [← hW]; exact (ZC.more (zc_new' _ _ _ (by first | rfl | simp)) _)
  have Zy : ZC W1 (w.heap.size + 1 + 1) [.int .u32 y.k, .int .i32 y.r, .int .i32 y.ax, .int .i32 y.ay, .int .i32 y.m, .int .i32 y.o, .int .i32 y.px, .int .i32 y.py, .int .i32 y.vx, .int .i32 y.vy] := by rw [← hW]; exact (zc_new' _ _ _ (by first | rfl | simp))
  have gg : Kep w.heap.size w W1 := by rw [← hW]; exact (kep_more (kep_more (kep_more (Kep.refl _ _) _) _) _)
  clear hW
  refine wp_region_noPanic ?_
  refine wp_region_held_drew (S := (fun w' => ZC w' (w.heap.size) [.int .u32 lo, .int .u32 hi, .int .i32 nx, .int .i32 ny, .int .i32 dp] ∧ ZC w' (w.heap.size + 1) [.int .u32 x.k, .int .i32 x.r, .int .i32 x.ax, .int .i32 x.ay, .int .i32 x.m, .int .i32 x.o, .int .i32 x.px, .int .i32 x.py, .int .i32 x.vx, .int .i32 x.vy] ∧ ZC w' (w.heap.size + 1 + 1) [.int .u32 y.k, .int .i32 y.r, .int .i32 y.ax, .int .i32 y.ay, .int .i32 y.m, .int .i32 y.o, .int .i32 y.px, .int .i32 y.py, .int .i32 y.vx, .int .i32 y.vy] ∧ Kep w.heap.size w w')) (by kernel_rfl) (⟨Zc.drew, Zx.drew, Zy.drew, kep_drew gg⟩) (fun hH => ?_)
  clear Zc Zx Zy gg
  refine rtk 0 (oi := ⟨some 18, .load 77 (.tmp 4), _, _, _, none⟩) (v := ?_) rfl ?_ hH ?_
  rotate_left
  · (intro wq hSw; (try dsimp only at hSw); obtain ⟨Zc, Zx, Zy, -⟩ := hSw; replace Zc := za_of Zc; replace Zx := za_of Zx; replace Zy := za_of Zy; go_simp; (try with_reducible rfl))
  refine rtk 1 (oi := ⟨some 19, .load 40 (.tmp 5), _, _, _, none⟩) (v := ?_) rfl ?_ hH ?_
  rotate_left
  · (intro wq hSw; (try dsimp only at hSw); obtain ⟨Zc, Zx, Zy, -⟩ := hSw; replace Zc := za_of Zc; replace Zx := za_of Zx; replace Zy := za_of Zy; go_simp; (try with_reducible rfl))
  refine rtk 2 (oi := ⟨some 20, .load 40 (.tmp 6), _, _, _, none⟩) (v := ?_) rfl ?_ hH ?_
  rotate_left
  · (intro wq hSw; (try dsimp only at hSw); obtain ⟨Zc, Zx, Zy, -⟩ := hSw; replace Zc := za_of Zc; replace Zx := za_of Zx; replace Zy := za_of Zy; go_simp; (try with_reducible rfl))
  refine sN 4 hH ?_
  refine sT 5 hH ?_
  refine sT 6 hH ?_
  refine rtk 7 (oi := ⟨some 25, .load 21 (.tmp 24), _, _, _, none⟩) (v := ?_) rfl ?_ hH ?_
  rotate_left
  · (intro wq hSw; (try dsimp only at hSw); obtain ⟨Zc, Zx, Zy, -⟩ := hSw; replace Zc := za_of Zc; replace Zx := za_of Zx; replace Zy := za_of Zy; go_simp; (try with_reducible rfl))
  refine sN 8 hH ?_
  refine sT 9 hH ?_
  refine rtk 10 (oi := ⟨some 28, .load 21 (.tmp 27), _, _, _, none⟩) (v := ?_) rfl ?_ hH ?_
  rotate_left
  · (intro wq hSw; (try dsimp only at hSw); obtain ⟨Zc, Zx, Zy, -⟩ := hSw; replace Zc := za_of Zc; replace Zx := za_of Zx; replace Zy := za_of Zy; go_simp; (try with_reducible rfl))
  refine sT 11 hH ?_
  refine sN 12 hH ?_
  refine sC 3 (fun K hK => ?_)
  go_simp
  (with_reducible refine (C1.out _).mono ?_); rintro e v4_3 ⟨rfl, g⟩
  refine hK.out _ _ (by (try dsimp only); obtain ⟨Zc, Zx, Zy, gg⟩ := id hH; exact ⟨Zc.kep g, Zx.kep g, Zy.kep g, kep_next gg g⟩) (fun hH2 => ?_)
  clear hK K hH; have hH := hH2; clear hH2
  try simp only [Act.put, List.setIfInBounds_toArray, List.set_cons_zero, List.set_cons_succ]
  refine sC 13 (fun K hK => ?_)
  go_simp
  (with_reducible refine (C2.out _).mono ?_); rintro e v4_13 ⟨rfl, g⟩
  refine hK.out _ _ (by (try dsimp only); obtain ⟨Zc, Zx, Zy, gg⟩ := id hH; exact ⟨Zc.kep g, Zx.kep g, Zy.kep g, kep_next gg g⟩) (fun hH2 => ?_)
  clear hK K hH; have hH := hH2; clear hH2
  refine sT 14 hH ?_
  refine sT 15 hH ?_
  refine sN 16 hH ?_
  refine sT 17 hH ?_
  refine sN 18 hH ?_
  refine sE ?_
  obtain ⟨Zc, Zx, Zy, gg⟩ := hH
  go_wp2_with fail
  go_ret
  exact ⟨rfl, gg⟩
set_option maxRecDepth 100000 in
set_option maxHeartbeats 2000000 in
theorem csh_true {lo hi nx ny dp n s t e : Int} {x y : Bd} (X1 : CAm lo hi nx ny dp x y n) (X2 : KMdC n y.m s t e) (e1 : IntKind.i64.wrap x.m = x.m) (e2 : IntKind.i64.wrap y.m = y.m) (e3 : IntKind.i64.wrap (x.m + y.m) = s) : CSh lo hi nx ny dp x y true t := fun w => by
  have C1 := Lib.hid X1
  have C2 := Lib.hid X2
  clear X1 X2
  go_enter Tryz.func64, Tryz.ntmps64
  go_upto_region 4 with fail
  generalize hW : World.alloc (World.alloc (World.alloc w _) _) _ = W1
  have Zc : ZC W1 (w.heap.size) [.int .u32 lo, .int .u32 hi, .int .i32 nx, .int .i32 ny, .int .i32 dp] := by rw [← hW]; exact (ZC.more (ZC.more (zc_new' _ _ _ (by first | rfl | simp)) _) _)
  have Zx : ZC W1 (w.heap.size + 1) [.int .u32 x.k, .int .i32 x.r, .int .i32 x.ax, .int .i32 x.ay, .int .i32 x.m, .int .i32 x.o, .int .i32 x.px, .int .i32 x.py, .int .i32 x.vx, .int .i32 x.vy] := by rw [← hW]; exact (ZC.more (zc_new' _ _ _ (by first | rfl | simp)) _)
  have Zy : ZC W1 (w.heap.size + 1 + 1) [.int .u32 y.k, .int .i32 y.r, .int .i32 y.ax, .int .i32 y.ay, .int .i32 y.m, .int .i32 y.o, .int .i32 y.px, .int .i32 y.py, .int .i32 y.vx, .int .i32 y.vy] := by rw [← hW]; exact (zc_new' _ _ _ (by first | rfl | simp))
  have gg : Kep w.heap.size w W1 := by rw [← hW]; exact (kep_more (kep_more (kep_more (Kep.refl _ _) _) _) _)
  clear hW
  refine wp_region_noPanic ?_
  refine wp_region_held_drew (S := (fun w' => ZC w' (w.heap.size) [.int .u32 lo, .int .u32 hi, .int .i32 nx, .int .i32 ny, .int .i32 dp] ∧ ZC w' (w.heap.size + 1) [.int .u32 x.k, .int .i32 x.r, .int .i32 x.ax, .int .i32 x.ay, .int .i32 x.m, .int .i32 x.o, .int .i32 x.px, .int .i32 x.py, .int .i32 x.vx, .int .i32 x.vy] ∧ ZC w' (w.heap.size + 1 + 1) [.int .u32 y.k, .int .i32 y.r, .int .i32 y.ax, .int .i32 y.ay, .int .i32 y.m, .int .i32 y.o, .int .i32 y.px, .int .i32 y.py, .int .i32 y.vx, .int .i32 y.vy] ∧ Kep w.heap.size w w')) (by kernel_rfl) (⟨Zc.drew, Zx.drew, Zy.drew, kep_drew gg⟩) (fun hH => ?_)
  clear Zc Zx Zy gg
  refine rtk 0 (oi := ⟨some 18, .load 77 (.tmp 4), _, _, _, none⟩) (v := ?_) rfl ?_ hH ?_
  rotate_left
  · (intro wq hSw; (try dsimp only at hSw); obtain ⟨Zc, Zx, Zy, -⟩ := hSw; replace Zc := za_of Zc; replace Zx := za_of Zx; replace Zy := za_of Zy; go_simp; (try with_reducible rfl))
  refine rtk 1 (oi := ⟨some 19, .load 40 (.tmp 5), _, _, _, none⟩) (v := ?_) rfl ?_ hH ?_
  rotate_left
  · (intro wq hSw; (try dsimp only at hSw); obtain ⟨Zc, Zx, Zy, -⟩ := hSw; replace Zc := za_of Zc; replace Zx := za_of Zx; replace Zy := za_of Zy; go_simp; (try with_reducible rfl))
  refine rtk 2 (oi := ⟨some 20, .load 40 (.tmp 6), _, _, _, none⟩) (v := ?_) rfl ?_ hH ?_
  rotate_left
  · (intro wq hSw; (try dsimp only at hSw); obtain ⟨Zc, Zx, Zy, -⟩ := hSw; replace Zc := za_of Zc; replace Zx := za_of Zx; replace Zy := za_of Zy; go_simp; (try with_reducible rfl))
  refine sN 4 hH ?_
  refine sT 5 hH ?_
  refine sT 6 hH ?_
  refine rtk 7 (oi := ⟨some 25, .load 21 (.tmp 24), _, _, _, none⟩) (v := ?_) rfl ?_ hH ?_
  rotate_left
  · (intro wq hSw; (try dsimp only at hSw); obtain ⟨Zc, Zx, Zy, -⟩ := hSw; replace Zc := za_of Zc; replace Zx := za_of Zx; replace Zy := za_of Zy; go_simp; (try with_reducible rfl))
  refine sN 8 hH ?_
  refine sT 9 hH ?_
  refine rtk 10 (oi := ⟨some 28, .load 21 (.tmp 27), _, _, _, none⟩) (v := ?_) rfl ?_ hH ?_
  rotate_left
  · (intro wq hSw; (try dsimp only at hSw); obtain ⟨Zc, Zx, Zy, -⟩ := hSw; replace Zc := za_of Zc; replace Zx := za_of Zx; replace Zy := za_of Zy; go_simp; (try with_reducible rfl))
  refine sT 11 hH ?_
  refine sN 12 hH ?_
  refine sC 3 (fun K hK => ?_)
  go_simp
  (with_reducible refine (C1.out _).mono ?_); rintro e v4_3 ⟨rfl, g⟩
  refine hK.out _ _ (by (try dsimp only); obtain ⟨Zc, Zx, Zy, gg⟩ := id hH; exact ⟨Zc.kep g, Zx.kep g, Zy.kep g, kep_next gg g⟩) (fun hH2 => ?_)
  clear hK K hH; have hH := hH2; clear hH2
  try simp only [Act.put, List.setIfInBounds_toArray, List.set_cons_zero, List.set_cons_succ]
  refine sC 13 (fun K hK => ?_)
  go_simp
  (with_reducible refine (C2.out _).mono ?_); rintro e v4_13 ⟨rfl, g⟩
  refine hK.out _ _ (by (try dsimp only); obtain ⟨Zc, Zx, Zy, gg⟩ := id hH; exact ⟨Zc.kep g, Zx.kep g, Zy.kep g, kep_next gg g⟩) (fun hH2 => ?_)
  clear hK K hH; have hH := hH2; clear hH2
  refine sT 14 hH ?_
  refine sT 15 hH ?_
  refine sN 16 hH ?_
  refine sT 17 hH ?_
  refine sN 18 hH ?_
  refine sE ?_
  obtain ⟨Zc, Zx, Zy, gg⟩ := hH
  go_wp2_with fail
  go_ret
  exact ⟨rfl, gg⟩
theorem csh_val {dp m : Int} {x y : Bd} (hx : Vb x) (hy : Vb y) (hd : Dp dp) (hm : 0 ≤ m ∧ m ≤ 1048576) : mdv (amI dp x y) m (x.m + y.m) = shI dp x y m := by
  have b := am_bd (x := x) (y := y) hd
  have m0 := hx.m0; have m1 := hy.m0
  unfold shI mdv
  by_cases c : x.m + y.m = 0
  · rw [if_pos c, if_pos (am_zero c)]
  · rw [if_neg c]
    have e : fl (amI dp x y * m) (x.m + y.m) = amI dp x y * m / (x.m + y.m) := if_neg (by omega)
    rw [e]
    have p := mul_bd (a := amI dp x y) (b := m) (A := 6710476) (B := 1048576) (by omega) (by omega)
    have p0 := Int.mul_nonneg b.1 hm.1
    have g := Int.ediv_nonneg (b := x.m + y.m) p0 (by omega)
    have g2 := Int.ediv_le_self (x.m + y.m) p0
    rw [rv_i64 (by omega) (by omega)]
    by_cases c2 : amI dp x y = 0
    · rw [if_pos c2, c2, Int.zero_mul, Int.zero_ediv]
    · rw [if_neg c2]
theorem csh_ok {lo hi nx ny dp : Int} {x y : Bd} (z : Bool) (hx : Vb x) (hy : Vb y) (hd : Dp dp) : CSh lo hi nx ny dp x y z (shI dp x y (if z = true then y.m else x.m)) := by
  have m0 := hx.m0; have m1 := hx.m1; have m2 := hy.m0; have m3 := hy.m1
  have b := am_bd (x := x) (y := y) hd
  have A := cam_ok (lo := lo) (hi := hi) (nx := nx) (ny := ny) hx hy hd
  have w1 : IntKind.i64.wrap x.m = x.m := by rw [IntKind.wrap_i64]; omega
  have w2 : IntKind.i64.wrap y.m = y.m := by rw [IntKind.wrap_i64]; omega
  have w3 : IntKind.i64.wrap (x.m + y.m) = x.m + y.m := by rw [IntKind.wrap_i64]; omega
  have q : ∀ {m : Int}, 0 ≤ m ∧ m ≤ 1048576 → KMdC (amI dp x y) m (x.m + y.m) (shI dp x y m) (mde (amI dp x y) m (x.m + y.m)) := fun {m} h w => by
    rw [← csh_val hx hy hd h]
    exact kep_calls (muldiv_any _ _ _ (by unfold I64; omega) (by unfold I64; omega) (by unfold I64; omega) w)
  cases z
  · exact csh_false A (q ⟨m0, m1⟩) w1 w2 w3
  · exact csh_true A (q ⟨m2, m3⟩) w1 w2 w3
end Go.Proofs.YtaknmlohnifcdaaGreatDoor
end

section
/-
  Package correct: a shift added to (push).
-/
namespace Go.Proofs.YtaknmlohnifcdaaGreatDoor
open Go.RowKit Go.Lib

def flatS (D : List Sh) : List Value := D.flatMap shv
theorem flatS_len (D : List Sh) : (flatS D).length = D.length * 2 := cat_len shv_len D
theorem flatS_at {D : List Sh} {i : Nat} {s : Sh} (h : D[i]? = some s) : (flatS D)[i * 2]? = some (.int .i64 s.1) ∧ (flatS D)[i * 2 + 1]? = some (.int .i64 s.2) := ⟨cat_get shv_len D i s h 0 (by decide), cat_get shv_len D i s h 1 (by decide)⟩
theorem flatS_set : ∀ (D : List Sh) (i : Nat) (s : Sh) (a b : Int), D[i]? = some s → (flatS D).set (i * 2) (.int .i64 a) = flatS (D.set i (a, s.2)) ∧ (flatS D).set (i * 2 + 1) (.int .i64 b) = flatS (D.set i (s.1, b))
  | [], _, _, _, _, h => by simp at h
  | y :: l, 0, s, a, b, h => by
    simp at h
    subst h
    exact ⟨rfl, rfl⟩
  | y :: l, i + 1, s, a, b, h => by
    have e := flatS_set l i s a b (by simpa using h)
    have f : ∀ y (l : List Sh), flatS (y :: l) = shv y ++ flatS l := fun y l => by simp [flatS]
    have q : ∀ (l : List Value) (k : Nat) (v : Value), (shv y ++ l).set ((i + 1) * 2 + k) v = shv y ++ l.set (i * 2 + k) v := fun l k v => by
      rw [List.set_append_right _ _ (by rw [shv_len]; omega), shv_len]
      congr 2
      omega
    rw [List.set_cons_succ, List.set_cons_succ, f, f, f, ← e.1, ← e.2]
    exact ⟨q _ 0 _, q _ 1 _⟩
/-- The shifts, in a block of the call's own; wa: the world below, wb: the world at a call's start. -/
structure SX (wa wb w : World) (ga : Nat) (D : List Sh) : Prop where
  kep : Kep wa.heap.size wa w
  fr : FrO ga ga wb w
  lg : wa.heap.size ≤ ga
  z : ZC w ga (flatS D)
theorem SX.on {wa wb w w' : World} {ga : Nat} {D : List Sh} (h : SX wa wb w ga D) (g : Kep w.heap.size w w') : SX wa wb w' ga D := ⟨h.kep.trans (g.mono h.kep.size), h.fr.kep g, h.lg, h.z.kep g⟩
theorem SX.setx {wa wb w : World} {ga i : Nat} {D : List Sh} {s : Sh} (h : SX wa wb w ga D) (hs : D[i]? = some s) (a : Int) : SX wa wb (w.setCell ⟨ga, i * 2, none⟩ (.int .i64 a)) ga (D.set i (a, s.2)) :=
  ⟨h.kep.setCell h.lg _, h.fr.set1 _, h.lg, by rw [← (flatS_set D i s a 0 hs).1]; exact h.z.put _ (by rw [flatS_len]; have := (List.getElem?_eq_some_iff.1 hs).1; omega)⟩
theorem SX.sety {wa wb w : World} {ga i : Nat} {D : List Sh} {s : Sh} (h : SX wa wb w ga D) (hs : D[i]? = some s) (b : Int) : SX wa wb (w.setCell ⟨ga, i * 2 + 1, none⟩ (.int .i64 b)) ga (D.set i (s.1, b)) :=
  ⟨h.kep.setCell h.lg _, h.fr.set1 _, h.lg, by rw [← (flatS_set D i s 0 b hs).2]; exact h.z.put _ (by rw [flatS_len]; have := (List.getElem?_eq_some_iff.1 hs).1; omega)⟩
theorem SX.start {wa wb w : World} {ga : Nat} {D : List Sh} (h : SX wa wb w ga D) : SX wa w w ga D := ⟨h.kep, .refl _ _ _, h.lg, h.z⟩
set_option maxRecDepth 100000 in
set_option maxHeartbeats 4000000 in
theorem cpush {D : List Sh} {i n : Nat} {s : Sh} {sg sh nx ny fx fy sx sy a b : Int} {wa wb w : World} {ga tb cb ca : Nat} (h : SX wa wb w ga D) (hs : D[i]? = some s) (hn : D.length = n)
    (ht : w.cell? ⟨tb, 0, none⟩ = some (.slice (some ⟨ga, 0, none⟩) n ca)) (hx : w.cell? ⟨cb, 2, none⟩ = some (.int .i32 nx)) (hy : w.cell? ⟨cb, 3, none⟩ = some (.int .i32 ny)) (n1 : tb ≠ ga) (n2 : cb ≠ ga)
    (X1 : KFr sh nx fx) (X2 : KFr sh ny fy) (e1 : IntKind.i64.wrap (sg * fx) = sx) (e2 : IntKind.i64.wrap (s.1 + sx) = a) (e3 : IntKind.i64.wrap (sg * fy) = sy) (e4 : IntKind.i64.wrap (s.2 + sy) = b) :
    Calls Tryz.prog 62 #[.int .i64 (i : Int), .int .i64 sg, .int .i64 sh, .pointer (some ⟨tb, 0, none⟩), .pointer (some ⟨cb, 0, none⟩)] w fun e w' => e = .returned (.tuple #[]) ∧ SX wa wb w' ga (D.set i (a, b)) := by
  have hin : i < n := by rw [← hn]; exact (List.getElem?_eq_some_iff.1 hs).1
  have i0 : (0 : Int) ≤ (i : Int) := Int.natCast_nonneg _
  have i1 : (i : Int) < (n : Int) := by omega
  have C1 := Lib.hid X1
  have C2 := Lib.hid X2
  have HS := Lib.hid hs
  have HC : Hid (SX wa wb w.drew ga D) := Lib.hid (h.on (kep_drew (Kep.refl _ _)))
  clear X1 X2 hs hn h hin
  go_enter Tryz.func62, Tryz.ntmps62
  go_upto_region 0 with fail
  go_cut [] (fun wx => Hid (SX wa wb wx ga (D.set i (a, s.2))) ∧ wx.cell? ⟨tb, 0, none⟩ = some (.slice (some ⟨ga, 0, none⟩) n ca) ∧ wx.cell? ⟨cb, 3, none⟩ = some (.int .i32 ny))
  case first =>
    refine wp_region_noPanic ?_
    refine wp_region_held_drew (S := (fun w' => w'.cell? ⟨tb, 0, none⟩ = some (.slice (some ⟨ga, 0, none⟩) n ca) ∧ w'.cell? ⟨cb, 2, none⟩ = some (.int .i32 nx) ∧ w'.cell? ⟨cb, 3, none⟩ = some (.int .i32 ny))) (by kernel_rfl) (⟨by rw [World.cell?_drew]; exact ht, by rw [World.cell?_drew]; exact hx, by rw [World.cell?_drew]; exact hy⟩) (fun hH => ?_)
    clear ht hx hy
    generalize w.drew = Y0 at *
    refine sT 0 hH ?_
    refine sT 1 hH ?_
    refine sN 2 hH ?_
    refine sT 3 hH ?_
    refine sT 5 hH ?_
    refine sT 6 hH ?_
    refine sN 7 hH ?_
    refine sT 8 hH ?_
    refine sN 9 hH ?_
    refine wpAnyH_ready (rs := [4, 10]) (by kernel_rfl) (by simp) ?_
    refine AllReadyH.cons (o := ⟨some 12, .load 2 (.tmp 11), _, _, _, none⟩) rfl (fun K hK => ?_) (AllReadyH.cons (o := ⟨some 18, .call { callee := .value (.func 63), args := #[.tmp 14, .tmp 17], argTypes := #[2, 21] }, _, _, _, none⟩) rfl (fun K hK => ?_) AllReadyH.nil)
    · have a0 : Y0.cell? ⟨ga, i * 2, none⟩ = some (.int .i64 s.1) := HC.out.z.i (flatS_at HS.out).1
      go_simp
      refine hK.out _ _ hH (fun hH2 => ?_)
      clear a0
      clear hK K hH; have hH := hH2; clear hH2
      try simp only [Act.put, List.setIfInBounds_toArray, List.set_cons_zero, List.set_cons_succ]
      refine sC 10 (fun K hK => ?_)
      go_simp
      (with_reducible refine (C1.out _).mono ?_); rintro e v1 ⟨rfl, g⟩
      replace HC := Lib.hid (HC.out.on g)
      refine hK.out _ _ (by obtain ⟨q0, q1, q2⟩ := id hH; exact ⟨g.all q0, g.all q1, g.all q2⟩) (fun hH2 => ?_)
      clear g
      clear hK K hH; have hH := hH2; clear hH2
      refine sT 11 hH ?_
      refine sT 12 hH ?_
      refine sN 13 hH ?_
      refine sN 14 hH ?_
      refine sC 15 (fun K hK => ?_)
      have a0 : v1.cell? ⟨ga, i * 2, none⟩ = some (.int .i64 s.1) := HC.out.z.i (flatS_at HS.out).1
      have f0 := HC.out.z.frz (i * 2)
      have hz := HC.out.z.lt
      obtain ⟨q0, q1, q2⟩ := id hH
      go_simp
      refine hK.out _ _ (by (try dsimp only); exact ⟨sset_far q0 (fun e => n1 e.symm), sset_far q1 (fun e => n2 e.symm), sset_far q2 (fun e => n2 e.symm)⟩) (fun hH2 => ?_)
      clear a0 f0 hz q0 q1 q2
      clear hK K hH; have hH := hH2; clear hH2
      try simp only [Act.put, List.setIfInBounds_toArray, List.set_cons_zero, List.set_cons_succ]
      refine sE ?_
      obtain ⟨q0, q1, q2⟩ := hH
      have H9 := Lib.hid (HC.out.setx HS.out a)
      go_wp2_with fail
      go_meet
      exact ⟨H9, q0, q2⟩
    · go_simp
      (with_reducible refine (C1.out _).mono ?_); rintro e v1 ⟨rfl, g⟩
      replace HC := Lib.hid (HC.out.on g)
      refine hK.out _ _ (by obtain ⟨q0, q1, q2⟩ := id hH; exact ⟨g.all q0, g.all q1, g.all q2⟩) (fun hH2 => ?_)
      clear g
      clear hK K hH; have hH := hH2; clear hH2
      refine sN 11 hH ?_
      refine sC 4 (fun K hK => ?_)
      have a0 : v1.cell? ⟨ga, i * 2, none⟩ = some (.int .i64 s.1) := HC.out.z.i (flatS_at HS.out).1
      go_simp
      refine hK.out _ _ hH (fun hH2 => ?_)
      clear a0
      clear hK K hH; have hH := hH2; clear hH2
      refine sT 12 hH ?_
      refine sT 13 hH ?_
      refine sN 14 hH ?_
      refine sC 15 (fun K hK => ?_)
      have a0 : v1.cell? ⟨ga, i * 2, none⟩ = some (.int .i64 s.1) := HC.out.z.i (flatS_at HS.out).1
      have f0 := HC.out.z.frz (i * 2)
      have hz := HC.out.z.lt
      obtain ⟨q0, q1, q2⟩ := id hH
      go_simp
      refine hK.out _ _ (by (try dsimp only); exact ⟨sset_far q0 (fun e => n1 e.symm), sset_far q1 (fun e => n2 e.symm), sset_far q2 (fun e => n2 e.symm)⟩) (fun hH2 => ?_)
      clear a0 f0 hz q0 q1 q2
      clear hK K hH; have hH := hH2; clear hH2
      try simp only [Act.put, List.setIfInBounds_toArray, List.set_cons_zero, List.set_cons_succ]
      refine sE ?_
      obtain ⟨q0, q1, q2⟩ := hH
      have H9 := Lib.hid (HC.out.setx HS.out a)
      go_wp2_with fail
      go_meet
      exact ⟨H9, q0, q2⟩
  case rest =>
    obtain ⟨HD, ht, hy⟩ := hcut
    clear HC
    have HC := Lib.hid (HD.out.on (kep_drew (Kep.refl _ _)))
    have HT : Hid ((D.set i (a, s.2))[i]? = some (a, s.2)) := Lib.hid (by rw [List.getElem?_set_self (List.getElem?_eq_some_iff.1 HS.out).1])
    clear HD HS
    have HS := HT
    clear HT
    go_upto_region 1 with fail
    refine wp_region_noPanic ?_
    refine wp_region_held_drew (S := (fun w' => w'.cell? ⟨tb, 0, none⟩ = some (.slice (some ⟨ga, 0, none⟩) n ca) ∧ w'.cell? ⟨cb, 3, none⟩ = some (.int .i32 ny))) (by kernel_rfl) (⟨by rw [World.cell?_drew]; exact ht, by rw [World.cell?_drew]; exact hy⟩) (fun hH => ?_)
    clear ht hy
    generalize wc.drew = Y1 at *
    refine sT 0 hH ?_
    refine sT 1 hH ?_
    refine sN 2 hH ?_
    refine sT 3 hH ?_
    refine sT 5 hH ?_
    refine sT 6 hH ?_
    refine sN 7 hH ?_
    refine sT 8 hH ?_
    refine sN 9 hH ?_
    refine wpAnyH_ready (rs := [4, 10]) (by kernel_rfl) (by simp) ?_
    refine AllReadyH.cons (o := ⟨some 27, .load 2 (.tmp 26), _, _, _, none⟩) rfl (fun K hK => ?_) (AllReadyH.cons (o := ⟨some 33, .call { callee := .value (.func 63), args := #[.tmp 29, .tmp 32], argTypes := #[2, 21] }, _, _, _, none⟩) rfl (fun K hK => ?_) AllReadyH.nil)
    · have a0 : Y1.cell? ⟨ga, i * 2 + 1, none⟩ = some (.int .i64 s.2) := HC.out.z.i (flatS_at HS.out).2
      go_simp
      refine hK.out _ _ hH (fun hH2 => ?_)
      clear a0
      clear hK K hH; have hH := hH2; clear hH2
      try simp only [Act.put, List.setIfInBounds_toArray, List.set_cons_zero, List.set_cons_succ]
      refine sC 10 (fun K hK => ?_)
      go_simp
      (with_reducible refine (C2.out _).mono ?_); rintro e v2 ⟨rfl, g⟩
      replace HC := Lib.hid (HC.out.on g)
      refine hK.out _ _ (by obtain ⟨q0, q2⟩ := id hH; exact ⟨g.all q0, g.all q2⟩) (fun hH2 => ?_)
      clear g
      clear hK K hH; have hH := hH2; clear hH2
      refine sT 11 hH ?_
      refine sT 12 hH ?_
      refine sN 13 hH ?_
      refine sN 14 hH ?_
      refine sC 15 (fun K hK => ?_)
      have a0 : v2.cell? ⟨ga, i * 2 + 1, none⟩ = some (.int .i64 s.2) := HC.out.z.i (flatS_at HS.out).2
      have f0 := HC.out.z.frz (i * 2 + 1)
      have hz := HC.out.z.lt
      obtain ⟨q0, q2⟩ := id hH
      go_simp
      refine hK.out _ _ (by (try dsimp only); exact ⟨sset_far q0 (fun e => n1 e.symm), sset_far q2 (fun e => n2 e.symm)⟩) (fun hH2 => ?_)
      clear a0 f0 hz q0 q2
      clear hK K hH; have hH := hH2; clear hH2
      try simp only [Act.put, List.setIfInBounds_toArray, List.set_cons_zero, List.set_cons_succ]
      refine sE ?_
      have H9 := HC.out.sety HS.out b
      rw [List.set_set] at H9
      have H8 := Lib.hid H9
      clear H9
      go_wp2_with fail
      go_end0
      exact ⟨rfl, H8.out⟩
    · go_simp
      (with_reducible refine (C2.out _).mono ?_); rintro e v2 ⟨rfl, g⟩
      replace HC := Lib.hid (HC.out.on g)
      refine hK.out _ _ (by obtain ⟨q0, q2⟩ := id hH; exact ⟨g.all q0, g.all q2⟩) (fun hH2 => ?_)
      clear g
      clear hK K hH; have hH := hH2; clear hH2
      refine sN 11 hH ?_
      refine sC 4 (fun K hK => ?_)
      have a0 : v2.cell? ⟨ga, i * 2 + 1, none⟩ = some (.int .i64 s.2) := HC.out.z.i (flatS_at HS.out).2
      go_simp
      refine hK.out _ _ hH (fun hH2 => ?_)
      clear a0
      clear hK K hH; have hH := hH2; clear hH2
      refine sT 12 hH ?_
      refine sT 13 hH ?_
      refine sN 14 hH ?_
      refine sC 15 (fun K hK => ?_)
      have a0 : v2.cell? ⟨ga, i * 2 + 1, none⟩ = some (.int .i64 s.2) := HC.out.z.i (flatS_at HS.out).2
      have f0 := HC.out.z.frz (i * 2 + 1)
      have hz := HC.out.z.lt
      obtain ⟨q0, q2⟩ := id hH
      go_simp
      refine hK.out _ _ (by (try dsimp only); exact ⟨sset_far q0 (fun e => n1 e.symm), sset_far q2 (fun e => n2 e.symm)⟩) (fun hH2 => ?_)
      clear a0 f0 hz q0 q2
      clear hK K hH; have hH := hH2; clear hH2
      try simp only [Act.put, List.setIfInBounds_toArray, List.set_cons_zero, List.set_cons_succ]
      refine sE ?_
      have H9 := HC.out.sety HS.out b
      rw [List.set_set] at H9
      have H8 := Lib.hid H9
      clear H9
      go_wp2_with fail
      go_end0
      exact ⟨rfl, H8.out⟩
end Go.Proofs.YtaknmlohnifcdaaGreatDoor
end

section
/-
  Package contacts: the contacts that a collector keeps, pair by pair (no program).
-/
namespace Go.Proofs.YtaknmlohnifcdaaGreatDoor
open Go.RowKit Go.Lib

/-- What a pair of keys gives. -/
def conP (L : List Bd) (p : Int × Int) : List Ct := match look L p.1, look L p.2 with
  | some x, some y => if tchB x y = true then [conC x y] else []
  | _, _ => []
theorem conP_at {L : List Bd} (h : Asc L) {x y : Bd} (hx : x ∈ L) (hy : y ∈ L) : conP L (x.k, y.k) = if tchB x y = true then [conC x y] else [] := by
  unfold conP
  dsimp only
  rw [look_mem h.once hx, look_mem h.once hy]
theorem conP_one {L : List Bd} (h : Asc L) {x : Bd} (hx : x ∈ L) : ∀ m : List Bd, (∀ y ∈ m, y ∈ L) → (m.map fun y => (x.k, y.k)).flatMap (conP L) = (m.filter (tchB x)).map (conC x)
  | [], _ => rfl
  | y :: m, hm => by
    have ih := conP_one h hx m (fun z hz => hm z (by simp [hz]))
    rw [List.map_cons, List.flatMap_cons, ih, conP_at h hx (hm y (by simp))]
    by_cases c : tchB x y = true
    · rw [if_pos c, List.filter_cons_of_pos c, List.map_cons]
      rfl
    · rw [if_neg c, List.filter_cons_of_neg c]
      rfl
theorem conP_sub {L : List Bd} (h : Asc L) (hk : ∀ x ∈ L, okC x) : ∀ l : List Bd, (∀ y ∈ l, y ∈ L) → (pairsL l).flatMap (conP L) = consL l
  | [], _ => rfl
  | x :: l, hl => by
    have ih := conP_sub h hk l (fun z hz => hl z (by simp [hz]))
    have hx := hl x (by simp)
    show (prO x l ++ pairsL l).flatMap (conP L) = conO x l ++ consL l
    rw [List.flatMap_append, ih, conO_pr (hk x hx) (fun y hy => hk y (hl y (by simp [hy])))]
    unfold prO
    rw [conP_one h hx _ (fun y hy => hl y (by simp [(List.mem_filter.1 hy).1]))]
theorem conP_all {L : List Bd} (h : Asc L) (hk : ∀ x ∈ L, okC x) : (pairsL L).flatMap (conP L) = consL L := conP_sub h hk L (fun _ hy => hy)
theorem conP_snoc {L : List Bd} {C : List (Int × Int)} {j : Nat} {p : Int × Int} (h : C[j]? = some p) : (C.take (j + 1)).flatMap (conP L) = (C.take j).flatMap (conP L) ++ conP L p := by
  rw [List.take_add_one, h, List.flatMap_append]
  simp
theorem conP_le (L : List Bd) (p : Int × Int) : (conP L p).length ≤ 1 := by
  unfold conP
  split
  · split <;> simp
  · simp
theorem conP_len (L : List Bd) : ∀ C : List (Int × Int), (C.flatMap (conP L)).length ≤ C.length
  | [] => by simp
  | p :: C => by
    have h1 := conP_le L p
    have h2 := conP_len L C
    rw [List.flatMap_cons, List.length_append, List.length_cons]
    omega
end Go.Proofs.YtaknmlohnifcdaaGreatDoor
end

section
/-
  Package contacts: what the laws ask of the program.
-/
namespace Go.Proofs.YtaknmlohnifcdaaGreatDoor
open Go.RowKit Go.Lib

abbrev CAll : Prop := ∀ v L w, Fac w → Lst w v L → Vw L → Calls Tryz.prog 36 #[v] w fun e w' => ∃ v' n, e = .returned (.tuple #[v', .int .i64 n]) ∧ (Sq ctv 5 w' v' (consL L) ∧ ((consL L).length : Int) ≤ n ∧ 2 * n ≤ (L.length : Int) * ((L.length : Int) - 1) ∧ Rmy v') ∧ Kep w.heap.size w w'
theorem okc_of {L : List Bd} (h : Vw L) : ∀ x ∈ L, okC x := fun x hx => h.ok x hx
end Go.Proofs.YtaknmlohnifcdaaGreatDoor
end
