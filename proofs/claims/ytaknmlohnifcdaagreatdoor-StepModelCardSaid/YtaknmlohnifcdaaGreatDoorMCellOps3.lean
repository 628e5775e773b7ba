import Derived.Test.YtaknmlohnifcdaaGreatDoorJ06MBodyFun
set_option maxHeartbeats 4000000
set_option maxRecDepth 100000
namespace Go.Proofs.YtaknmlohnifcdaaGreatDoor
open Go.RowKit Go.Lib Go.Shelf

attribute [local go_sem] Oper.semAt_some

theorem LKp.alloc {Bx : Nat} {T : TypeId} (W : World) (o : Obj) : LKp Bx T W (W.alloc o) := ⟨by simp, fun v hv => ⟨v, hv.alloc o, fun _ e => .inl e, fun k u _ _ ho _ => (Below.heap_alloc _ _ k (Array.getElem?_eq_some_iff.1 ho).1).trans ho⟩⟩
def Live (Bx lo hi : Nat) (p q u v : Int) (W : World) : Prop := Apt Bx 172 [lo, hi] W ∧ W.cell? ⟨lo, 0, none⟩ = some (.int .i32 p) ∧ W.cell? ⟨lo, 1, none⟩ = some (.int .i32 q) ∧ W.cell? ⟨hi, 0, none⟩ = some (.int .i32 u) ∧ W.cell? ⟨hi, 1, none⟩ = some (.int .i32 v)
theorem Live.next {Bx lo hi : Nat} {p q u v : Int} {W W' : World} (h : Live Bx lo hi p q u v W) (k : LKp Bx 172 W W') : Live Bx lo hi p q u v W' :=
 ⟨h.1.next k, h.1.cell k (by simp) h.2.1, h.1.cell k (by simp) h.2.2.1, h.1.cell k (by simp) h.2.2.2.1, h.1.cell k (by simp) h.2.2.2.2⟩
abbrev encC (c : Int × Int) : Array Value := #[.agg #[.int .i32 c.1, .int .i32 c.2]]

theorem pcells (xa ya za ta p q u v : Int) (z : Bool) (S1 : Hid (PeS xa ya za ta p q u v z)) (w : World) :
 Calls Tryz.prog 139 #[.agg #[.int .i32 xa, .int .i32 ya, .int .i32 za, .int .i32 ta]] w fun e w' => ∃ Bo Bl Bh, e = .returned (.func (.func 168) #[] #[.pointer (some ⟨Bo, 0, none⟩), .pointer (some ⟨Bl, 0, none⟩), .pointer (some ⟨Bh, 0, none⟩)]) ∧ Bel w w'
  ∧ (w.heap.size ≤ Bl ∧ Bl < w'.heap.size) ∧ (w.heap.size ≤ Bh ∧ Bh < w'.heap.size) ∧ w'.cell? ⟨Bo, 0, none⟩ = some (.bool z) ∧ w'.cell? ⟨Bl, 0, none⟩ = some (.int .i32 p) ∧ w'.cell? ⟨Bl, 1, none⟩ = some (.int .i32 q) ∧ w'.cell? ⟨Bh, 0, none⟩ = some (.int .i32 u) ∧ w'.cell? ⟨Bh, 1, none⟩ = some (.int .i32 v) := by
 go_enter Tryz.func139, Tryz.ntmps139
 go_wp2_with (first
  | ((with_reducible refine (S1.out _).mono ?_); rintro e w1 ⟨rfl, g1⟩
     have gg := bel_next (bel_more (Below.refl _ _) _) g1))
 go_ret
 have hs : w.heap.size ≤ w1.heap.size := by have := g1.size; simp at this; omega
 exact ⟨_, _, _, rfl, bel_more (bel_more (bel_more gg _) _) _, ⟨hs, by simp; omega⟩, ⟨by omega, by simp⟩, by (repeat (first | rw [World.cell?_drew] | rw [World.cell?_alloc_past _ _ _ (by first | (simp; done) | (simp; omega))])); rw [World.cell?_alloc_at _ _ _ _ (by simp)]; rfl, by (repeat (first | rw [World.cell?_drew] | rw [World.cell?_alloc_past _ _ _ (by first | (simp; done) | (simp; omega))])); rw [World.cell?_alloc_at _ _ _ _ (by simp)]; rfl, by (repeat (first | rw [World.cell?_drew] | rw [World.cell?_alloc_past _ _ _ (by first | (simp; done) | (simp; omega))])); rw [World.cell?_alloc_at _ _ _ _ (by simp)]; rfl, by (repeat (first | rw [World.cell?_drew] | rw [World.cell?_alloc_past _ _ _ (by first | (simp; done) | (simp; omega))])); rw [World.cell?_alloc_at _ _ _ _ (by simp)]; rfl, by (repeat (first | rw [World.cell?_drew] | rw [World.cell?_alloc_past _ _ _ (by first | (simp; done) | (simp; omega))])); rw [World.cell?_alloc_at _ _ _ _ (by simp)]; rfl⟩

theorem peach_in (n : Nat) (_hn : 1 ≤ n) (l Bx Bo Bl Bh : Nat) (p q u v : Int) (nc nr : Nat) (hu : Hid (u = p + nc - 1)) (hv : Hid (v = q + nr - 1)) (hp : -512 ≤ p) (hq : -512 ≤ q) (hu2 : u ≤ 511) (hv2 : v ≤ 511)
 (J Jx : List (Int × Int) → World → Prop) (W : World)
 (hY : ∀ pre x W1, J pre W1 → pre.length < nr * nc → YieldAt Fence.wide (n - 1) Tryz.prog l (encC x) W1 fun e W' => (e = .returned (.bool true) ∧ J (pre ++ [x]) W' ∧ LKp Bx 172 W1 W') ∨ (e = .returned (.bool false) ∧ Jx (pre ++ [x]) W'))
 (o0 : W.cell? ⟨Bo, 0, none⟩ = some (.bool true)) (hlive : Live Bx Bl Bh p q u v W) (h0 : J [] W) :
 CallsIn Fence.wide n Tryz.prog 168 #[.func (.yield l) #[] #[], .pointer (some ⟨Bo, 0, none⟩), .pointer (some ⟨Bl, 0, none⟩), .pointer (some ⟨Bh, 0, none⟩)] W fun e W' => (∃ v, e = .returned v) ∧ ((∃ xs, xs = allC p q nc nr ∧ J xs W') ∨ (∃ pre : List (Int × Int), True ∧ Jx pre W')) := by
 refine callsIn_of_wp Tryz.func168 rfl trivial ?_ rfl
 simp only [Tryz.ntmps168, List.size_toArray, List.length_cons, List.length_nil, Nat.reduceAdd, Nat.reduceSub, Array.replicate_succ, Array.replicate_zero, List.push_toArray, List.append_toArray, List.nil_append, List.cons_append]
 have HLI := Lib.hid hlive
 have HJ2 := Lib.hid h0
 have HY := Lib.hid hY
 obtain ⟨_, l0, l1, h2, h3⟩ := hlive
 gi_wp2
 clear o0 h0 hY l0 l1 h2 h3
 gi_loopw [5, 6] (fun y _ wr => ∃ j : Nat, j ≤ nr ∧ y = .int .i32 (q + j) ∧ Hid (J (allC p q nc j) wr) ∧ Hid (Live Bx Bl Bh p q u v wr)) (fun y _ _ => nr - (RowKit.intOf y - q).toNat)
 case atStart => exact ⟨0, Nat.zero_le _, by simp, HJ2, HLI⟩
 case round =>
  obtain ⟨j, hj, rfl, HJ, HL⟩ := hrel
  obtain ⟨_, l0, l1, h2, h3⟩ := HL.out
  by_cases hlt : j < nr
  ·have hle : q + (j : Int) ≤ v := by have := hv.out; omega
   gi_wp2
   gi_loopw [6] (fun x wr => ∃ i : Nat, i ≤ nc ∧ x = .int .i32 (p + i) ∧ Hid (J (allC p q nc j ++ rowC p (q + j) i) wr) ∧ Hid (Live Bx Bl Bh p q u v wr)) (fun x _ => nc - (RowKit.intOf x - p).toNat)
   case atStart => exact ⟨0, Nat.zero_le _, by simp, by rw [rowC_zero, List.append_nil]; exact HJ, HL⟩
   case round =>
    obtain ⟨i, hi, rfl, HI2, HL2⟩ := hrel
    clear l0 l1 h2 h3
    obtain ⟨_, l0, l1, h2, h3⟩ := HL2.out
    by_cases hlt2 : i < nc
    ·have hle2 : p + (i : Int) ≤ u := by have := hu.out; omega
     have ei : IntKind.i32.wrap (p + (i : Int) + 1) = p + ((i + 1 : Nat) : Int) := by have := hu.out; rw [IntKind.wrap_i32]; omega
     have hlen : (allC p q nc j ++ rowC p (q + j) i).length < nr * nc := by
      rw [List.length_append, allC_len, rowC_len]
      have := Nat.mul_le_mul_right nc (show j + 1 ≤ nr by omega)
      rw [Nat.succ_mul] at this
      omega
     obtain ⟨fn, tmps, assign, body, hy, hR⟩ := HY.out _ (p + (i : Int), q + (j : Int)) wr HI2.out hlen
     have HR := Lib.hid hR
     clear hR hlen
     gi_wp2
     refine HR.out.mono ?_
     rintro e W3 (⟨rfl, hJ3, hk3⟩ | ⟨rfl, hJx3⟩)
     ·have HJ3 := Lib.hid hJ3
      have HL3 := Lib.hid (HL2.out.next hk3)
      clear hJ3 hk3 hy HR
      gi_wp2
      go_roundw
      case rel => exact ⟨i + 1, by omega, rfl, by rw [rowC_succ, ← List.append_assoc]; exact HJ3, HL3⟩
      case measure => simp [RowKit.intOf]; omega
     ·gi_wp2
      refine bodyPost_ret (results_none rfl _ _ _) rfl ?_
      exact ⟨⟨_, rfl⟩, .inr ⟨_, trivial, hJx3⟩⟩
    ·have hle2 : ¬ p + (i : Int) ≤ u := by have := hu.out; omega
     obtain rfl : i = nc := by omega
     have ej : IntKind.i32.wrap (q + (j : Int) + 1) = q + ((j + 1 : Nat) : Int) := by have := hv.out; rw [IntKind.wrap_i32]; omega
     have HM := HI2
     rw [← allC_succ] at HM
     gi_wp2
     go_roundw
     case rel => exact ⟨j + 1, by omega, rfl, HM, HL2⟩
     case measure => simp [RowKit.intOf]; omega
  ·have hle : ¬ q + (j : Int) ≤ v := by have := hv.out; omega
   obtain rfl : j = nr := by omega
   gi_wp2
   go_end0
   first | exact ⟨⟨_, rfl⟩, .inl ⟨_, rfl, HJ.out⟩⟩ | exact ⟨⟨_, rfl⟩, .inl HJ.out⟩

theorem peach_no (n : Nat) (_hn : 1 ≤ n) (l Bo Bl Bh : Nat) (J Jx : List (Int × Int) → World → Prop) (W : World) (o0 : W.cell? ⟨Bo, 0, none⟩ = some (.bool false)) (h0 : J [] W) :
 CallsIn Fence.wide n Tryz.prog 168 #[.func (.yield l) #[] #[], .pointer (some ⟨Bo, 0, none⟩), .pointer (some ⟨Bl, 0, none⟩), .pointer (some ⟨Bh, 0, none⟩)] W fun e W' => (∃ v, e = .returned v) ∧ ((∃ xs, xs = [] ∧ J xs W') ∨ (∃ pre : List (Int × Int), True ∧ Jx pre W')) := by
 refine callsIn_of_wp Tryz.func168 rfl trivial ?_ rfl
 simp only [Tryz.ntmps168, List.size_toArray, List.length_cons, List.length_nil, Nat.reduceAdd, Nat.reduceSub, Array.replicate_succ, Array.replicate_zero, List.push_toArray, List.append_toArray, List.nil_append, List.cons_append]
 gi_wp2
 refine bodyPost_ret (results_none rfl _ _ _) rfl ?_
 exact ⟨⟨_, rfl⟩, .inl ⟨_, rfl, h0⟩⟩

abbrev Stops (Bx Bo Bl Bh : Nat) (L : List (Int × Int)) (w : World) : Prop := SeqStopsK Fence.wide 4 Tryz.prog 168 #[.pointer (some ⟨Bo, 0, none⟩), .pointer (some ⟨Bl, 0, none⟩), .pointer (some ⟨Bh, 0, none⟩)] encC (LKp Bx 172) (fun xs => xs = L) (fun _ => True) L.length w
theorem info_ceell : (Tryz.prog.info? 174).map (fun i => (i.zero, i.size, i.bytes)) = some (some (.agg #[.int .i32 0, .int .i32 0]), 2, 8) := by kernel_rfl

theorem pal_walk (xa ya za ta p q u v : Int) (z : Bool) (S1 : Hid (PeS xa ya za ta p q u v z)) (L : List (Int × Int)) (hL : L.length ≤ 1000000)
 (HS : ∀ W Bx Bo Bl Bh, Boxed W Bx 172 (.slice none 0 0) → Bl ≠ Bx → Bh ≠ Bx → Bl < W.heap.size → Bh < W.heap.size → W.cell? ⟨Bo, 0, none⟩ = some (.bool z) → W.cell? ⟨Bl, 0, none⟩ = some (.int .i32 p) → W.cell? ⟨Bl, 1, none⟩ = some (.int .i32 q) → W.cell? ⟨Bh, 0, none⟩ = some (.int .i32 u) → W.cell? ⟨Bh, 1, none⟩ = some (.int .i32 v) → Stops Bx Bo Bl Bh L W) (w : World) :
 Calls Tryz.prog 110 #[.agg #[.int .i32 xa, .int .i32 ya, .int .i32 za, .int .i32 ta]] w fun e w' => ∃ v, e = .returned v ∧ w'.ownsRow w.heap.size 174 2 v L.length (L.flatMap cv) ∧ Below w.heap.size w w' := by
 have PE := Lib.hid (pcells xa ya za ta p q u v z S1)
 refine (callsIn_wide (n := 5)).1 ?_
 refine callsIn_of_wp_marks Tryz.func110 rfl trivial ?_ rfl
 simp only [Tryz.ntmps110, List.size_toArray, List.length_cons, List.length_nil, Nat.reduceAdd, Nat.reduceSub, Array.replicate_succ, Array.replicate_zero, List.push_toArray, List.append_toArray, List.nil_append, List.cons_append]
 gi_wp2_with (refine ⟨trivial, ?_⟩; gi_at_call 139; refine (callsIn_wide.2 (PE.out _)).mono ?_; rintro e W0 ⟨Bo, Bl, Bh, rfl, g0, ⟨nl1, nl2⟩, ⟨nh1, nh2⟩, c0, c1, c2, c3, c4⟩)
 have hB0 : Below w.heap.size w W0 := bel_next (bel_more (bel_more (Below.refl _ _) _) _) g0
 have hsz : w.heap.size + 2 ≤ W0.heap.size := by have := g0.size; simp at this; omega
 have bL : Boxed W0 (w.heap.size + 1) 172 (.slice none 0 0) := by
  have := Boxed.new (w.alloc (.cells #[.int .i32 xa, .int .i32 ya, .int .i32 za, .int .i32 ta] 120)) 172 (.slice none 0 0)
  rw [World.size_alloc] at this
  exact (g0.block _ (by simp)).trans this
 have nl3 : w.heap.size + 2 ≤ Bl := by simpa using nl1
 have nh3 : w.heap.size + 2 ≤ Bh := by simpa using nh1
 have ST : Stops (w.heap.size + 1) Bo Bl Bh L W0 := HS W0 _ _ _ _ bL (by omega) (by omega) nl2 nh2 c0 c1 c2 c3 c4
 clear HS c0 c1 c2 c3 c4
 refine wpIn_rangeFunc_ownH rfl (by decide) (gf := 168) (lb := #[.pointer (some ⟨Bo, 0, none⟩), .pointer (some ⟨Bl, 0, none⟩), .pointer (some ⟨Bh, 0, none⟩)]) rfl trivial (enters_of Tryz.func168 (by kernel_rfl) rfl)
  ST LKp.trans (fun W l o o' a b c d => LKp.turn (w := W0) W l o o' a b c d) (Below.refl _ _) (fun _ => rfl)
  (fun (pre : List (Int × Int)) W => (∃ v, Boxed W (w.heap.size + 1) 172 v ∧ W.ownsRow w.heap.size 174 2 v pre.length (pre.flatMap cv) ∧ True) ∧ Below w.heap.size w W)
  (fun _ _ _ => False)
  (OwnFrom.and (Own.from (holdsRow_own w.heap.size (w.heap.size + 1) 172 174 2 (fun (pre : List (Int × Int)) => pre.length) (fun pre => pre.flatMap cv) (fun _ _ => True)) _) (ownFrom_below (Nat.le_refl _) (by omega)))
  (fun _ _ _ _ _ hs _ _ => hs)
  ⟨⟨_, bL, World.ownsRow_nil _ _ _ _, trivial⟩, hB0⟩
  (fun x a' W => ∃ Bc, W.cell? ⟨Bc, 0, none⟩ = some (.int .i32 x.1) ∧ W.cell? ⟨Bc, 1, none⟩ = some (.int .i32 x.2) ∧ a' = { tmps := #[.agg #[.int .i32 xa, .int .i32 ya, .int .i32 za, .int .i32 ta], .pointer (some ⟨w.heap.size, 0, none⟩), .slice none 0 0, .pointer (some ⟨w.heap.size + 1, 0, none⟩), .pointer (some ⟨Bc, 0, none⟩), .agg #[.int .i32 xa, .int .i32 ya, .int .i32 za, .int .i32 ta], .func (.func 168) #[] #[.pointer (some ⟨Bo, 0, none⟩), .pointer (some ⟨Bl, 0, none⟩), .pointer (some ⟨Bh, 0, none⟩)], .agg #[.int .i32 x.1, .int .i32 x.2], undef, undef, undef, undef, undef], defers := [] })
  (fun x a' s W W' row hs hg hr => by
    obtain ⟨Bc, h1, h2, h3⟩ := hs
    exact ⟨Bc, cell_kept h1 hg (fun r e => (hr r e).2), cell_kept h2 hg (fun r e => (hr r e).2), h3⟩)
  ?assign ?body ?done ?stop
 case assign =>
  rintro l pre x W K ⟨⟨v, hv, hrow, _⟩, hB⟩ hK
  obtain ⟨x0, x1⟩ := x
  gi_wp2
  exact hK _ _ ((KeepsOthers.alloc _ _).from _) (LKp.alloc _ _) ⟨⟨v, hv.alloc _, hrow.alloc _, trivial⟩, hB.alloc hB.size _⟩ ⟨W.heap.size, by rw [World.cell?_alloc_at _ _ _ _ (by simp)]; rfl, by rw [World.cell?_alloc_at _ _ _ _ (by simp)]; rfl, rfl⟩
 case body =>
  rintro l pre x a' W hl ⟨r, hr⟩ ⟨⟨v, hv, hrow, _⟩, hB⟩ ⟨Bc, c0, c1, rfl⟩ hlt
  obtain ⟨x0, x1⟩ := x
  have hc := hv.cell
  gi_wp2_with (gi_at_builtin; refine wpListIn_app cv 2 cv_len cv_one rfl _ _ 172 rfl 174 _ 8 Tryz.underlying172 info_ceell rfl (by decide) w.heap.size _ _ pre (x0, x1) rfl hrow _ (by first | rfl | simp) rfl _ rfl (by unfold maxLen; omega) (by omega) hB.size ?_; intro g cap w1 hown hgrow hfr; obtain ⟨hv1, hv2, hr2, hk2, hb2⟩ := hv.appended (by decide) hrow hB.size (by omega) hown hgrow; have hc1 := hv1.cell; have hf1 := hv1.frozen)
  have hf2 : ∀ g1, (Value.slice (some ⟨g, 0, none⟩) (pre.length + 1) cap).ownBlock = some g1 → v.ownBlock = some g1 ∨ W.heap.size ≤ g1 := fun g1 e => by
   obtain rfl : g = g1 := by simpa [Value.ownBlock] using e
   exact hfr
  exact ⟨hk2.from _, LKp.appended hv hgrow hf2 hv2, ⟨⟨_, hv2, by first | exact hr2 | exact ⟨hr2, trivial⟩⟩, hB.trans hb2⟩⟩
 case done =>
  rintro D ys W hD rfl ⟨⟨v, hv, hrow, _⟩, hB⟩ hK
  have hc := hv.cell
  gi_wp2
  refine ⟨by simp, .inl ⟨_, _, rfl, run_takeDeferred hK, ?_⟩⟩
  exact ⟨_, results_tmp rfl _ _ _, v, rfl, ownsRow_putObj hrow _ hK rfl, hB.trans (belowK_b (w := w) (Nat.le_refl _) W D _ _ (by omega) hK rfl rfl)⟩
 case stop =>
  rintro D c pre W _ _ h _
  exact h.elim

theorem keepall {W W1 : World} (h : Below W.heap.size W W1) {Bx : Nat} {T : TypeId} {v : Value} (hb : Boxed W Bx T v) : Boxed W1 Bx T v := (h.block Bx hb.lt).trans hb
theorem pal (xa ya za ta p q u v : Int) (nc nr : Nat) (S1 : Hid (PeS xa ya za ta p q u v true)) (hu : u = p + nc - 1) (hv : v = q + nr - 1) (hp : -512 ≤ p) (hq : -512 ≤ q) (hu2 : u ≤ 511) (hv2 : v ≤ 511) (hn : nr * nc ≤ 1000000) (w : World) :
 Calls Tryz.prog 110 #[.agg #[.int .i32 xa, .int .i32 ya, .int .i32 za, .int .i32 ta]] w fun e w' => ∃ v, e = .returned v ∧ w'.ownsRow w.heap.size 174 2 v (allC p q nc nr).length ((allC p q nc nr).flatMap cv) ∧ Below w.heap.size w w' :=
 pal_walk xa ya za ta p q u v true S1 (allC p q nc nr) (by rw [allC_len]; exact hn) (fun W Bx Bo Bl Bh hb n1 n2 m1 m2 c0 c1 c2 c3 c4 l J Jx W1 hW _ _ hY h0 =>
  peach_in 4 (by decide) l Bx Bo Bl Bh p q u v nc nr (Lib.hid hu) (Lib.hid hv) hp hq hu2 hv2 J Jx W1 (by rw [allC_len] at hY; exact hY)
   (bel_all hW c0) ⟨⟨_, keepall hW hb, fun b hm => by
     simp only [List.mem_cons, List.not_mem_nil, or_false] at hm
     rcases hm with rfl | rfl
     ·exact ⟨n1, by simp [Value.ownBlock], Nat.lt_of_lt_of_le m1 hW.size⟩
     ·exact ⟨n2, by simp [Value.ownBlock], Nat.lt_of_lt_of_le m2 hW.size⟩⟩, bel_all hW c1, bel_all hW c2, bel_all hW c3, bel_all hW c4⟩ h0) w
theorem pal_no (xa ya za ta : Int) (S1 : Hid (PeS xa ya za ta 0 0 0 0 false)) (w : World) :
 Calls Tryz.prog 110 #[.agg #[.int .i32 xa, .int .i32 ya, .int .i32 za, .int .i32 ta]] w fun e w' => ∃ v, e = .returned v ∧ w'.ownsRow w.heap.size 174 2 v ([] : List (Int × Int)).length (([] : List (Int × Int)).flatMap cv) ∧ Below w.heap.size w w' :=
 pal_walk xa ya za ta 0 0 0 0 false S1 [] (by decide) (fun W Bx Bo Bl Bh hb n1 n2 m1 m2 c0 c1 c2 c3 c4 l J Jx W1 hW _ _ hY h0 =>
  peach_no 4 (by decide) l Bo Bl Bh J Jx W1 (bel_all hW c0) h0) w
end Go.Proofs.YtaknmlohnifcdaaGreatDoor
