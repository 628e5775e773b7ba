import Derived.Test.YtaknmlohnifcdaaGreatDoorJ09MGridIns
import Derived.Test.YtaknmlohnifcdaaGreatDoorJ06MBodyFun
import Derived.Test.YtaknmlohnifcdaaGreatDoorJ11MSortBrk
import Derived.RangeFuncFrom
import Derived.Sort.MapsRangeIn
import Derived.Sort.KeysCollected
import Derived.DeepKeys4
set_option maxHeartbeats 4000000
set_option maxRecDepth 100000
section
namespace Go.Proofs.YtaknmlohnifcdaaGreatDoor
open Go.RowKit Go.Lib Go.Maps Go.Shelf Go.Sort

attribute [local go_sem] Oper.semAt_some

theorem ukey {key : Value} {kl : Lit} (h : keyOf Tryz.prog 36 key = some kl) : ∃ x, key = .int .u32 x ∧ kl = .int .u32 x := by
 cases key <;> simp [keyOf, Tryz.underlying36, mapKey] at h
 rename_i q a
 obtain ⟨⟨h1, h2⟩, h3⟩ := h
 subst h1
 exact ⟨a, rfl, h3.symm⟩
def CollU (D0 : DataW Unit) (left : Lit → Bool) (ss : List Int) : Prop := ss.Nodup ∧ ∀ x, x ∈ ss ↔ (Maps.has D0 (.int .u32 x) = true ∧ left (.int .u32 x) = false)
theorem CollU.start (D0 : DataW Unit) : CollU D0 (Maps.has D0) [] := ⟨List.nodup_nil, fun x => by cases h : Maps.has D0 (.int .u32 x) <;> simp⟩
theorem CollU.step {D0 : DataW Unit} {left : Lit → Bool} {ss : List Int} (h : CollU D0 left ss) {x : Int} {y : DataW Unit} (hlk : left (.int .u32 x) = true) (hat : ∀ zd, D0.atKey (.int .u32 x) zd = y) : CollU D0 (fun z => left z && !z.sameKey (.int .u32 x)) (ss ++ [x]) := by
 have hhas : Maps.has D0 (.int .u32 x) = true := has_true_of_atKey hat
 have hnew : x ∉ ss := fun hx => by
  have := ((h.2 x).1 hx).2
  rw [hlk] at this
  cases this
 refine ⟨List.nodup_append.2 ⟨h.1, by simp, fun a ha b hb e => by simp at hb; subst hb; exact hnew (e ▸ ha)⟩, fun z => ?_⟩
 rw [List.mem_append, List.mem_singleton, h.2 z]
 by_cases c : z = x
 ·subst c
  simp [hhas, Lit.sameKey]
 ·simp [c, Lit.sameKey]
abbrev KeysOf (D0 : DataW Unit) (ss : List Int) : Prop := ss.Nodup ∧ (∀ x, x ∈ ss ↔ Maps.has D0 (.int .u32 x) = true) ∧ ss.length ≤ Maps.size D0
abbrev encU (x : Int) : Array Value := #[.int .u32 x]
theorem ukeys_in (n : Nat) (_hn : 1 ≤ n) (l Bm b nn : Nat) (D0 : DataW Unit) {R : Value → Option (DataW Unit × List MemPlace)} (J Jx : List Int → World → Prop) (W : World) (hJ : AbidesFrom W.heap.size J)
 (hY : ∀ pre x W1, J pre W1 → pre.length < Maps.size D0 → YieldAt Fence.wide (n - 1) Tryz.prog l (encU x) W1 fun e W' => (e = .returned (.bool true) ∧ J (pre ++ [x]) W' ∧ KeepsWalks W1 W') ∨ (e = .returned (.bool false) ∧ Jx (pre ++ [x]) W'))
 (hm : W.cell? ⟨Bm, 0, none⟩ = some (.map (some b))) (hown : W.ownsMap Tryz.prog 36 R b nn D0) (h0 : J [] W) :
 CallsIn Fence.wide n Tryz.prog 144 #[.func (.yield l) #[] #[], .pointer (some ⟨Bm, 0, none⟩)] W fun e W' => (∃ v, e = .returned v) ∧ ((∃ xs, KeysOf D0 xs ∧ J xs W') ∨ (∃ pre : List Int, True ∧ Jx pre W')) := by
 refine callsIn_of_wp Tryz.func144 rfl trivial ?_ rfl
 simp only [Tryz.ntmps144, List.size_toArray, List.length_cons, List.length_nil, Nat.reduceAdd, Nat.reduceSub, Array.replicate_succ, Array.replicate_zero, List.push_toArray, List.append_toArray, List.nil_append, List.cons_append]
 gi_wp2_with (first
  | (gi_at_range; refine wpListIn_range_own _ rfl _ 177 rfl 36 184 law32 Tryz.underlying177 _ b nn _ rfl hown ?_; intro w0 hrg0 hg0 hs0)
  | gi_in)
 go_frame
 gi_loopw [3] (fun _ wr => ∃ (left : Lit → Bool) (cnt : Nat) (ss : List Int), wr.ranges Tryz.prog 36 R b W.heap.size nn D0 left cnt ∧ ss.length + cnt ≤ Maps.size D0 ∧ CollU D0 left ss ∧ J ss wr)
  (fun _ wr => wr.rangeLeft b W.heap.size)
 case atStart => exact ⟨_, _, [], hrg0, by simp, CollU.start D0, hJ [] W w0 none h0 hg0 (fun r e => by cases e)⟩
 case round =>
  obtain ⟨left, cnt, ss, hrg, hcs, hC, hJs⟩ := hrel
  gi_wp2_with (first
   | (gi_at_next; refine wpListIn_next_ranges _ rfl _ rfl 36 law32 R (Value.int .u32) id (fun key kl hk => by obtain ⟨x, hx, _⟩ := ukey hk; exact ⟨x, hx⟩) (fun v _ _ => ⟨v, rfl⟩) b W.heap.size nn _ _ _ rfl hrg ?_ ?_)
   | gi_in)
  ·intro hc0 hl0
   gi_wp2
   go_end0
   exact ⟨⟨_, rfl⟩, .inl ⟨ss, ⟨hC.1, fun x => by rw [hC.2 x, hl0]; simp, by omega⟩, hJs⟩⟩
  ·intro x c kl yd yp w2 cnt2 hkey hlk hv hat hrg2 hlt hg2 hs2 hen
   obtain ⟨x', ex, rfl⟩ := ukey hkey
   obtain rfl : x = x' := by injection ex
   have hJ2 : J ss w2 := hJ ss wr w2 (some W.heap.size) hJs hg2 (fun r e => by cases e; exact ⟨Nat.le_refl _, hrg.iter_walk⟩)
   obtain ⟨fn, tmps, assign, body, hy, hR⟩ := hY ss x w2 hJ2 (by omega)
   have hC2 := hC.step hlk hat
   clear hs2
   gi_wp2
   refine hR.mono ?_
   rintro e W3 (⟨rfl, hJ3, hk3⟩ | ⟨rfl, hJx3⟩)
   ·gi_wp2
    have hrg3 := hrg2.of_walks hk3
    go_roundw
    case rel => exact ⟨_, cnt2, ss ++ [x], hrg3, by simp; omega, hC2, hJ3⟩
    case measure => rw [hrg3.left_eq, hrg.left_eq]; exact hlt
   ·gi_wp2
    refine bodyPost_ret (results_none rfl _ _ _) rfl ?_
    exact ⟨⟨_, rfl⟩, .inr ⟨_, trivial, hJx3⟩⟩
theorem map_bel {w w' : World} {R : Value → Option (DataW Unit × List MemPlace)} {k : TypeId} {b n : Nat} {D : DataW Unit} (h : w.ownsMap Tryz.prog k R b n D) (g : Bel w w') : w'.ownsMap Tryz.prog k R b n D := by
 have hlt := h.lt
 obtain ⟨es, clock, hb, F, hs, hD⟩ := h
 exact ⟨es, clock, (g.block b hlt).trans hb, F, hs, hD⟩
theorem ukeys_seq (Bm b nn : Nat) (D0 : DataW Unit) {R : Value → Option (DataW Unit × List MemPlace)} (w : World) (hm : w.cell? ⟨Bm, 0, none⟩ = some (.map (some b))) (hown : w.ownsMap Tryz.prog 36 R b nn D0) :
 SeqStopsK Fence.wide 4 Tryz.prog 144 #[.pointer (some ⟨Bm, 0, none⟩)] encU KeepsWalks (KeysOf D0) (fun _ => True) (Maps.size D0) w :=
 fun l J Jx W hW hJ _ hY h0 => ukeys_in 4 (by decide) l Bm b nn D0 J Jx W hJ hY (bel_all hW hm) (map_bel hown hW) h0
theorem ukeys_any (b : Nat) (w : World) : Calls Tryz.prog 115 #[.map (some b)] w fun e w' => e = .returned (.func (.func 144) #[] #[.pointer (some ⟨w.heap.size, 0, none⟩)]) ∧ w' = w.alloc (.cells #[.map (some b)] 177) := by
 go_enter Tryz.func115, Tryz.ntmps115
 go_wp2
 go_ret
 exact ⟨rfl, rfl⟩
theorem info_u32k : (Tryz.prog.info? 36).map (fun i => (i.zero, i.size, i.bytes)) = some (some (.int .u32 0), 1, 4) := by kernel_rfl
theorem uapp_any (Bm : Nat) (D0 : DataW Unit) (N : Nat) (hN : N ≤ 1000000000) (w : World)
 (HS : ∀ W, Bel w W → SeqStopsK Fence.wide 4 Tryz.prog 144 #[.pointer (some ⟨Bm, 0, none⟩)] encU KeepsWalks (KeysOf D0) (fun _ => True) N W) :
 Calls Tryz.prog 173 #[.slice none 0 0, .func (.func 144) #[] #[.pointer (some ⟨Bm, 0, none⟩)]] w fun e w' => ∃ v ss, e = .returned v ∧ KeysOf D0 ss ∧ w'.ownsRow w.heap.size 36 1 v ss.length (ss.flatMap kv) ∧ Bel w w' := by
 refine (callsIn_wide (n := 5)).1 ?_
 refine callsIn_of_wp_marks Tryz.func173 rfl trivial ?_ rfl
 simp only [Tryz.ntmps173, List.size_toArray, List.length_cons, List.length_nil, Nat.reduceAdd, Nat.reduceSub, Array.replicate_succ, Array.replicate_zero, List.push_toArray, List.append_toArray, List.nil_append, List.cons_append]
 gi_wp2
 have hB0 : Below w.heap.size w (w.alloc (.cells #[.slice none 0 0] 144)) := (Below.refl _ w).alloc (Nat.le_refl _) _
 have bL : Boxed (w.alloc (.cells #[.slice none 0 0] 144)) w.heap.size 144 (.slice none 0 0) := Boxed.new w _ _
 have ST := HS _ hB0
 have hsz : (w.alloc (.cells #[.slice none 0 0] 144)).heap.size = w.heap.size + 1 := by simp
 generalize w.alloc (.cells #[.slice none 0 0] 144) = W0 at *
 clear HS
 refine wpIn_rangeFunc_ownF rfl (by decide) (gf := 144) (lb := #[.pointer (some ⟨Bm, 0, none⟩)]) rfl trivial (enters_of Tryz.func144 (by kernel_rfl) rfl)
  ST walksK_t walksK_b (Below.refl _ _) (fun _ => rfl)
  (fun (pre : List Int) W => (∃ v, Boxed W w.heap.size 144 v ∧ W.ownsRow w.heap.size 36 1 v pre.length (pre.flatMap kv) ∧ True) ∧ Below w.heap.size w W)
  (fun _ _ _ => False)
  (OwnFrom.and (Own.from (holdsRow_own w.heap.size w.heap.size 144 36 1 (fun (pre : List Int) => pre.length) (fun pre => pre.flatMap kv) (fun _ _ => True)) _) (ownFrom_below (Nat.le_refl _) (by omega)))
  (fun _ _ _ _ _ hs _ _ => hs)
  ⟨⟨_, bL, World.ownsRow_nil _ _ _ _, trivial⟩, hB0⟩
  (fun x => { tmps := #[.slice none 0 0, .func (.func 144) #[] #[.pointer (some ⟨Bm, 0, none⟩)], .pointer (some ⟨w.heap.size, 0, none⟩), undef, .slice none 0 0, .int .u32 x, .func (.func 144) #[] #[.pointer (some ⟨Bm, 0, none⟩)], .int .u32 x, undef, undef, undef, undef, undef], defers := [] }) ?assign ?body ?done ?stop
 case assign =>
  intro l x W K hK
  gi_wp2
  exact hK
 case body =>
  rintro l pre x W ⟨⟨v, hv, hrow, _⟩, hB⟩ hlt
  have hc := hv.cell
  gi_wp2_with (gi_at_builtin; refine wpListIn_app kv 1 kv_len kv_one rfl _ _ 144 rfl 36 _ 4 Tryz.underlying144 info_u32k rfl (by decide) w.heap.size _ _ pre x rfl hrow _ (by first | rfl | simp) rfl _ rfl (by unfold maxLen; omega) (by omega) hB.size ?_; intro g cap w1 hown hgrow hfr; obtain ⟨hv1, hv2, hr2, hk2, hb2⟩ := hv.appended (by decide) hrow hB.size (by omega) hown hgrow; have hc1 := hv1.cell; have hf1 := hv1.frozen)
  exact ⟨hk2, hk2.walks, ⟨⟨_, hv2, by first | exact hr2 | exact ⟨hr2, trivial⟩⟩, hB.trans hb2⟩⟩
 case done =>
  rintro D ys W hD hys ⟨⟨v, hv, hrow, _⟩, hB⟩ hK
  have hc := hv.cell
  gi_wp2
  refine ⟨by simp, .inl ⟨_, _, rfl, run_takeDeferred hK, ?_⟩⟩
  exact ⟨_, results_tmp rfl _ _ _, v, ys, rfl, hys, ownsRow_putObj hrow _ hK rfl, hB.trans (belowK_b (w := w) (Nat.le_refl _) W D _ _ (by omega) hK rfl rfl)⟩
 case stop =>
  rintro D c pre W _ _ h _
  exact h.elim
theorem ucol_any (Bm : Nat) (D0 : DataW Unit) (N : Nat) (hN : N ≤ 1000000000) (w : World)
 (HS : ∀ W, Bel w W → SeqStopsK Fence.wide 4 Tryz.prog 144 #[.pointer (some ⟨Bm, 0, none⟩)] encU KeepsWalks (KeysOf D0) (fun _ => True) N W) :
 Calls Tryz.prog 142 #[.func (.func 144) #[] #[.pointer (some ⟨Bm, 0, none⟩)]] w fun e w' => ∃ v ss, e = .returned v ∧ KeysOf D0 ss ∧ w'.ownsRow w.heap.size 36 1 v ss.length (ss.flatMap kv) ∧ Bel w w' := by
 have C := Lib.hid (uapp_any Bm D0 N hN w HS)
 clear HS
 go_enter Tryz.func142, Tryz.ntmps142
 go_wp2_with ((with_reducible refine (C.out).mono ?_); rintro e w1 ⟨v, ss, rfl, h1, h2, h3⟩)
 go_ret
 exact ⟨v, ss, rfl, h1, h2, h3⟩
theorem flat_kv (ss : List Int) : ss.flatMap kv = ss.map ku := by
 induction ss with
 | nil => rfl
 | cons a l ih => simp [ih]; rfl
theorem ksort_pair {a b : Nat} {R : Array Int} (hs : SortedIn ltInt a b R) (ha : a = 0) (hb : b = R.size) (hd : R.toList.Nodup) : SortS kless R.toList := by
 subst ha hb
 refine List.pairwise_iff_getElem.2 fun i j hi hj hij => ?_
 have hj' : j < R.size := by simpa using hj
 have q := hs i j (Nat.zero_le _) hij hj'
 have gi : R[i]! = R.toList[i] := by rw [getElem!_pos R i (by simpa using hi)]; simp
 have gj : R[j]! = R.toList[j] := by rw [getElem!_pos R j hj']; simp
 rw [gi, gj] at q
 have ne := List.pairwise_iff_getElem.1 hd i j hi hj hij
 unfold ltInt at q
 unfold kless
 simp at q ⊢
 simp at ne
 omega
theorem usort_empty (w : World) (p : Option Addr) (cap : Nat) : Calls Tryz.prog 143 #[.slice p 0 cap] w fun e w' => e = .returned (.tuple #[]) ∧ w = w' := by
 have hi : Hid (∀ W, Calls Tryz.prog 194 #[.slice p 0 cap, .int .i64 0, .int .i64 0] W fun e w' => e = .returned (.tuple #[]) ∧ W = w') := Lib.hid fun W => by
  go_enter Tryz.func194, Tryz.ntmps194
  go_wp2
  refine wp_loop_rounds 1 ?_
  rw [rounds_succ]
  go_wp2
  go_end0
  exact ⟨rfl, rfl⟩
 have hp : Hid (∀ (lim : Int) W, Calls Tryz.prog 174 #[.slice p 0 cap, .int .i64 0, .int .i64 0, .int .i64 lim] W fun e w' => e = .returned (.tuple #[]) ∧ W = w') := Lib.hid fun lim W => by
  go_enter Tryz.func174, Tryz.ntmps174
  go_wp2
  refine wp_loop_rounds 1 ?_
  rw [rounds_succ]
  go_wp2_with ((with_reducible refine (hi.out _).mono ?_); rintro e w' ⟨rfl, rfl⟩)
  (try simp only [Exit.inBlock, Exit.then]); refine bodyPost_ret (results_none rfl _ _ _) rfl ?_
  exact ⟨rfl, rfl⟩
 have hl : Hid (∀ W, Calls Tryz.prog 146 #[.int .u64 0] W fun e w' => e = .returned (.int .i64 (Lib.bitLen 0 : Nat)) ∧ w' = W) := Lib.hid fun W => by
  have h := Any.bits_Len (SlLaysF0.n15.bits (P := Tryz.prog) (ρ := sortP_ren) { sortP with }) 0 W (by omega) (by omega)
  exact h
 go_enter Tryz.func143, Tryz.ntmps143
 go_wp2_with (first | ((with_reducible refine (hl.out _).mono ?_); rintro e w' ⟨rfl, rfl⟩) | ((with_reducible refine (hp.out _ _).mono ?_); rintro e w' ⟨rfl, rfl⟩))
 go_end0
 exact ⟨rfl, rfl⟩
theorem usort_own {w : World} {B : Nat} {v : Value} {ss : List Int} (h : w.ownsRow B 36 1 v ss.length (ss.flatMap kv)) (hn : ss.length ≤ 1000000000) (hd : ss.Nodup) :
 Calls Tryz.prog 143 #[v] w fun e w' => e = .returned (.tuple #[]) ∧ (∃ m, ss.Perm m ∧ SortS kless m ∧ Sq kv 1 w' v m) ∧ (∀ k, v.ownBlock = some k → B ≤ k) ∧ Kep B w w' := by
 rcases h.2 with ⟨rfl, h0⟩ | ⟨g, cap, cur, rfl, hB, hg, hc, _⟩
 ·obtain rfl := List.length_eq_zero_iff.1 h0
  exact (usort_empty w none 0).mono fun e w' ⟨h1, h2⟩ => ⟨h1, ⟨[], List.Perm.refl _, List.Pairwise.nil, Sq.nil⟩, (fun k e => by cases e), h2 ▸ Kep.refl _ _⟩
 ·have hlt : g < w.heap.size := (Array.getElem?_eq_some_iff.1 hg).1
  have hh : Holds ku w g 0 ss.toArray := fun j hj => by
   have hj' : j < ss.length := by simpa using hj
   rw [Nat.zero_add]
   refine ⟨?_, h.frozenAt j⟩
   rw [h.cellAt j (by simpa using hj'), flat_kv]
   simp [hj']
  have C := usort_any g 0 cap ss.toArray w hh hlt (by simp; omega) (by simpa using hd)
  rw [show ss.toArray.size = ss.length by simp] at C
  refine C.mono fun e w' ⟨h1, R, ⟨hp, hs⟩, k⟩ => ⟨h1, ?_, (fun j e => by have e2 : some g = some j := e; injection e2 with e2; omega), ?_⟩
  ·have hsz : R.size = ss.length := k.sz
   have hpm : ss.Perm R.toList := by
    have q := hp.2.2
    rw [show ss.length = ss.toArray.size by simp, Array.extract_eq_self_of_le (Nat.le_of_eq (by rw [hsz]; simp)), Array.extract_eq_self_of_le (Nat.le_refl _)] at q
    exact q.symm
   refine ⟨R.toList, hpm, ksort_pair hs rfl hsz.symm (hpm.nodup_iff.1 hd), ?_⟩
   have hlen : R.toList.length = ss.length := by simpa using hsz
   refine ⟨_, cap, by rw [hlen], fun i x hx => ⟨g, 0, rfl, fun q u hu => ?_⟩⟩
   have hi := (List.getElem?_eq_some_iff.1 hx).1
   obtain ⟨G, hG⟩ := AW.name R
   have hcell := k.cell hG i (by omega)
   obtain rfl : q = 0 := by
    have := (List.getElem?_eq_some_iff.1 hu).1
    rw [kv_len] at this
    omega
   have hu2 : some (Value.int .u32 x) = some u := hu
   injection hu2 with hu3
   subst hu3
   rw [show 0 + i * 1 + 0 = 0 + i by omega, hcell, hG]
   have hi2 : i < R.size := by simpa using hi
   rw [getElem!_pos R i hi2]
   have := (List.getElem?_eq_some_iff.1 hx).2
   simp at this
   rw [this]
  ·obtain ⟨n, os, hw⟩ := k.sw
   subst hw
   refine ⟨rfl, rfl, SW.le ⟨n, os, rfl⟩, fun j hj => ?_⟩
   unfold sortWorld putRow
   rw [heap_grow_old _ _ (by simp [mapBlock]; omega)]
   simp only [mapBlock, heap_ahead]
   rw [Array.getElem?_modify, if_neg (by omega)]
theorem usorted_any (Bm : Nat) (D0 : DataW Unit) (hN : Maps.size D0 ≤ 1000000000) (w : World)
 (HS : ∀ W, Bel w W → SeqStopsK Fence.wide 4 Tryz.prog 144 #[.pointer (some ⟨Bm, 0, none⟩)] encU KeepsWalks (KeysOf D0) (fun _ => True) (Maps.size D0) W) :
 Calls Tryz.prog 114 #[.func (.func 144) #[] #[.pointer (some ⟨Bm, 0, none⟩)]] w fun e w' => ∃ v K, e = .returned v ∧ (SortS kless K ∧ (∀ x, x ∈ K ↔ Maps.has D0 (.int .u32 x) = true) ∧ K.length ≤ Maps.size D0) ∧ (Sq kv 1 w' v K ∧ Fresh w v) ∧ Kep w.heap.size w w' := by
 have C := Lib.hid (ucol_any Bm D0 (Maps.size D0) hN w HS)
 have HL := Lib.hid hN
 clear HS hN
 go_enter Tryz.func114, Tryz.ntmps114
 go_wp2_with (first
  | ((with_reducible refine (C.out).mono ?_); rintro e w1 ⟨v, ss, rfl, h1, h2, h3⟩; have C2 := Lib.hid (usort_own h2 (Nat.le_trans h1.2.2 HL.out) h1.1); clear C)
  | ((with_reducible refine (C2.out).mono ?_); rintro e w2 ⟨rfl, ⟨m, q1, q2, q3⟩, q4, k2⟩))
 go_ret
 exact ⟨v, m, rfl, ⟨q2, fun x => by rw [← q1.mem_iff, h1.2.1], by rw [← q1.length_eq]; exact h1.2.2⟩, ⟨q3, q4⟩, (Kep.of_below h3).trans k2⟩
end Go.Proofs.YtaknmlohnifcdaaGreatDoor
end
section
namespace Go.Proofs.YtaknmlohnifcdaaGreatDoor
open Go.RowKit Go.Lib Go.Maps

/-! Keys that are pairs. -/

theorem laidOutP : laidOutB Tryz.prog = true := by kernel_rfl
theorem rowP : (75 : TypeId) < Tryz.prog.types.size := of_decide_eq_true (by kernel_rfl)
theorem wideP : (match Tryz.prog.underlying 75 with | some (.array _ _) | some (.struct _) => true | _ => false) = true := by rw [Tryz.underlying75]
theorem lawP : Keyed Tryz.prog 75 := Keyed.of_law (deep_law_laid laidOutP (m := 2) (by omega) rowP (by kernel_rfl) wideP)
def aggP (p : Int × Int) : Value := .agg #[.int .u32 p.1, .int .u32 p.2]
def klP (p : Int × Int) : Lit := .string (keyBytes [.int .u32 p.1, .int .u32 p.2])
abbrev WfP (p : Int × Int) : Prop := (Lit.int .u32 p.1).wf = true ∧ (Lit.int .u32 p.2).wf = true
theorem kt_pair : Tryz.prog.keyType 75 = true := by kernel_rfl
theorem cells_pair : Tryz.prog.cellsOf 75 = 2 := by kernel_rfl
theorem cells_key : Tryz.prog.cellsOf 36 = 1 := by kernel_rfl
theorem succ_of_lt {a n : Nat} (h : a < n) : ∃ m, n = m + 1 := ⟨n - 1, by omega⟩
theorem keyOfP {p : Int × Int} (h : WfP p) : keyOf Tryz.prog 75 (aggP p) = some (klP p) := by
 obtain ⟨p0, p1⟩ := p
 obtain ⟨h0, h1⟩ := h
 dsimp only at h0 h1
 obtain ⟨m, hm⟩ : ∃ m, Tryz.prog.types.size = m + 1 := succ_of_lt (a := 75) rowP
 unfold keyOf aggP klP
 rw [hm]
 simp [Tryz.underlying75, kt_pair, Value.formed, cells_pair, Program.keyLits, Value.cells, cells_key, Tryz.underlying36, h0, h1]
theorem klP_inj {p q : Int × Int} (hp : WfP p) (hq : WfP q) (h : klP p = klP q) : p = q := by
 have e := lawP.inj (keyOfP hp) (h ▸ keyOfP hq)
 unfold aggP at e
 simp at e
 exact Prod.ext e.1 e.2
theorem klP_lit (p : Int × Int) : WideAt.IsKeyLit (klP p) := trivial

theorem lt_of_asc {K : List Int} (hs : SortS kless K) {i j : Nat} {x y : Int} (hx : K[i]? = some x) (hy : K[j]? = some y) (h : i < j) : x < y := by
 obtain ⟨l1, e1⟩ := List.getElem?_eq_some_iff.1 hx
 obtain ⟨l2, e2⟩ := List.getElem?_eq_some_iff.1 hy
 have := of_decide_eq_true (List.pairwise_iff_getElem.1 hs _ _ l1 l2 h)
 rw [e1, e2] at this
 exact this
theorem inj_asc {K : List Int} (hs : SortS kless K) {i j : Nat} {x : Int} (hx : K[i]? = some x) (hy : K[j]? = some x) : i = j := by
 by_cases a : i < j
 ·have := lt_of_asc hs hx hy a; omega
 ·by_cases b : j < i
  ·have := lt_of_asc hs hy hx b; omega
  ·omega
def abv (K : List Int) (x : Int) : List Int := K.drop (lessN K x + 1)
theorem lessN_at {K : List Int} {x : Int} (hs : SortS kless K) (hx : x ∈ K) : K[lessN K x]? = some x := by
 have h1 : lessN K x < K.length := by
  by_cases c : lessN K x < K.length
  ·exact c
  ·exact absurd hx (lessN_out hs (by omega))
 have h2 : K[lessN K x]? = some K[lessN K x] := List.getElem?_eq_getElem h1
 rw [h2, (lessN_in hs h2).2 hx]
theorem mem_abv {K : List Int} {x y : Int} (hs : SortS kless K) (hx : x ∈ K) : y ∈ abv K x ↔ y ∈ K ∧ x < y := by
 have h0 := lessN_at hs hx
 unfold abv
 constructor
 ·intro h
  obtain ⟨j, hj⟩ := List.getElem?_of_mem h
  rw [List.getElem?_drop] at hj
  exact ⟨List.mem_of_getElem? hj, lt_of_asc hs h0 hj (by omega)⟩
 ·rintro ⟨h1, h2⟩
  obtain ⟨j, hj⟩ := List.getElem?_of_mem h1
  have : lessN K x < j := by
   by_cases c : j < lessN K x
   ·have := lt_of_asc hs hj h0 c
    omega
   ·by_cases d : j = lessN K x
    ·subst d
     rw [h0] at hj
     injection hj with hj
     omega
    ·omega
  refine List.mem_of_getElem? (i := j - (lessN K x + 1)) ?_
  rw [List.getElem?_drop, show lessN K x + 1 + (j - (lessN K x + 1)) = j by omega]
  exact hj
theorem abv_asc {K : List Int} (x : Int) (hs : SortS kless K) : SortS kless (abv K x) := List.Pairwise.sublist (List.drop_sublist _ _) hs
def visX (Kf : Nat → List Int) (zs : List Int) (x : Int) (i : Nat) (A : List Int) : List (Int × Int) := ((zs.take i).flatMap fun t => (abv (Kf t.toNat) x).map fun y => (x, y)) ++ A.map fun y => (x, y)
theorem visX_next (Kf : Nat → List Int) (zs : List Int) (x : Int) (i : Nat) {B : List Int} {j : Nat} {y : Int} (h : B[j]? = some y) : visX Kf zs x i (B.take (j + 1)) = visX Kf zs x i (B.take j) ++ [(x, y)] := by
 unfold visX
 rw [List.take_add_one, h, List.map_append, ← List.append_assoc]
 rfl
theorem visX_row (Kf : Nat → List Int) (zs : List Int) (x : Int) {i : Nat} {t : Int} (h : zs[i]? = some t) : visX Kf zs x i (abv (Kf t.toNat) x) = visX Kf zs x (i + 1) [] := by
 unfold visX
 rw [List.take_add_one, h]
 simp
theorem visX_in (Kf : Nat → List Int) (zs : List Int) (x : Int) (i : Nat) (A : List Int) (p : Int × Int) : p ∈ visX Kf zs x i A ↔ p.1 = x ∧ ((∃ t ∈ zs.take i, p.2 ∈ abv (Kf t.toNat) x) ∨ p.2 ∈ A) := by
 unfold visX
 rw [List.mem_append, List.mem_flatMap, List.mem_map]
 constructor
 ·rintro (⟨t, ht, h⟩ | ⟨y, hy, rfl⟩)
  ·obtain ⟨y, hy, rfl⟩ := List.mem_map.1 h
   exact ⟨rfl, .inl ⟨t, ht, hy⟩⟩
  ·exact ⟨rfl, .inr hy⟩
 ·rintro ⟨e, h⟩
  obtain ⟨a, b⟩ := p
  dsimp only at e h
  subst e
  rcases h with ⟨t, ht, hb⟩ | hb
  ·exact .inl ⟨t, ht, List.mem_map.2 ⟨b, hb, rfl⟩⟩
  ·exact .inr ⟨b, hb, rfl⟩
theorem visX_mem (Kf : Nat → List Int) (zs : List Int) (x : Int) (p : Int × Int) : p ∈ visX Kf zs x zs.length [] ↔ p.1 = x ∧ ∃ t ∈ zs, p.2 ∈ abv (Kf t.toNat) x := by
 rw [visX_in, List.take_length]
 simp
theorem visX_fresh {Kf : Nat → List Int} {x y : Int} {zs : List Int} {B : List Int} {j : Nat} (hB : SortS kless B) (h : B[j]? = some y) : ¬ (x, y) ∈ visX Kf zs x 0 (B.take j) := by
 rw [visX_in]
 rintro ⟨_, h1 | q⟩
 ·obtain ⟨t, ht, _⟩ := h1
  simp at ht
 ·obtain ⟨k, hk⟩ := List.getElem?_of_mem q
  have hl := (List.getElem?_eq_some_iff.1 hk).1
  rw [List.length_take] at hl
  rw [List.getElem?_take_of_lt (by omega)] at hk
  have := inj_asc hB hk h
  omega
structure Found (z : Bool) (V M : List (Int × Int)) (D : DataW Unit) : Prop where
 nodup : M.Nodup
 mem : ∀ p, p ∈ M ↔ p ∈ V
 has : ∀ p, WfP p → (Maps.has D (klP p) = true ↔ p ∈ V ∧ z = true)
 val : ∀ p, WfP p → Maps.has D (klP p) = true → ∀ y, D.atKey (klP p) y = .lit (.bool true)
theorem found_nil (z : Bool) : Found z [] [] (.map []) := ⟨List.nodup_nil, fun p => by simp, fun p _ => by simp [Maps.has], fun p _ h => by simp [Maps.has] at h⟩
theorem Found.skip {z : Bool} {V M : List (Int × Int)} {D : DataW Unit} (h : Found z V M D) {p : Int × Int} (hp : p ∈ V) : Found z (V ++ [p]) M D := by
 have e : ∀ q, q ∈ V ++ [p] ↔ q ∈ V := fun q => by
  rw [List.mem_append, List.mem_singleton]
  exact ⟨fun a => a.elim id (fun a => a ▸ hp), .inl⟩
 exact ⟨h.nodup, fun q => by rw [h.mem, e], fun q hq => by rw [h.has q hq, e], h.val⟩
theorem nodup_snoc {l : List (Int × Int)} {p : Int × Int} (h : l.Nodup) (hp : ¬ p ∈ l) : (l ++ [p]).Nodup := by
 rw [List.nodup_append]
 exact ⟨h, by simp, fun a ha b hb e => by simp at hb; subst hb; exact hp (e ▸ ha)⟩
theorem Found.plain {V M : List (Int × Int)} {D : DataW Unit} (h : Found false V M D) {p : Int × Int} (hp : ¬ p ∈ V) : Found false (V ++ [p]) (M ++ [p]) D :=
 ⟨nodup_snoc h.nodup (fun q => hp ((h.mem p).1 q)), fun q => by rw [List.mem_append, List.mem_append, h.mem], fun q hq => by rw [h.has q hq]; simp, h.val⟩
theorem Found.put {V M : List (Int × Int)} {D : DataW Unit} (h : Found true V M D) (hD : IsMap D) {p : Int × Int} (hw : WfP p) (hp : ¬ p ∈ V) : Found true (V ++ [p]) (M ++ [p]) (D.put (klP p) (.lit (.bool true))) := by
 refine ⟨nodup_snoc h.nodup (fun q => hp ((h.mem p).1 q)), fun q => by rw [List.mem_append, List.mem_append, h.mem], fun q hq => ?_, fun q hq hh z => ?_⟩
 ·by_cases c : q = p
  ·subst c
   rw [has_put_same hD (klP_lit _)]
   simp
  ·rw [has_put_other (fun e => c (klP_inj hq hw e)), h.has q hq, List.mem_append, List.mem_singleton]
   exact ⟨fun a => ⟨.inl a.1, a.2⟩, fun a => ⟨a.1.elim id (fun e => absurd e c), a.2⟩⟩
 ·by_cases c : q = p
  ·subst c
   rw [atKey_put_same hD (klP_lit _)]
  ·rw [has_put_other (fun e => c (klP_inj hq hw e))] at hh
   rw [atKey_put_other (fun e => c (klP_inj hq hw e))]
   exact h.val q hq hh z
theorem cand_mem (L : List Ent) (p : Int × Int) : p ∈ candL L ↔ ∃ t : Nat, t < 1024 ∧ p.1 ∈ atL L (t : Int) ∧ p.2 ∈ atL L (t : Int) ∧ p.1 < p.2 := by
 rw [(candL_spec L).2]
 constructor
 ·rintro ⟨e, he, f, hf, hc, rfl⟩
  unfold candT comE at hc
  rw [Bool.and_eq_true, List.any_eq_true] at hc
  obtain ⟨h1, n, hn, h2⟩ := hc
  have hb : ∃ t : Nat, n = (t : Int) ∧ t < 1024 := by
   unfold bksE bksB at hn
   obtain ⟨x, _, rfl⟩ := List.mem_map.1 hn
   have := bkt_in x.1 x.2
   exact ⟨(bktN x.1 x.2).toNat, by omega, by omega⟩
  obtain ⟨t, rfl, ht⟩ := hb
  exact ⟨t, ht, ((atL_spec L (t : Int)).2 _).2 ⟨e, he, List.contains_iff_mem.2 hn, rfl⟩, ((atL_spec L (t : Int)).2 _).2 ⟨f, hf, h2, rfl⟩, of_decide_eq_true h1⟩
 ·rintro ⟨t, ht, q1, q2, q3⟩
  obtain ⟨e, he, b1, e1⟩ := ((atL_spec L (t : Int)).2 _).1 q1
  obtain ⟨f, hf, b2, e2⟩ := ((atL_spec L (t : Int)).2 _).1 q2
  refine ⟨e, he, f, hf, ?_, Prod.ext e1 e2⟩
  unfold candT comE
  rw [Bool.and_eq_true, List.any_eq_true]
  exact ⟨decide_eq_true (by rw [← e1, ← e2]; exact q3), (t : Int), List.contains_iff_mem.1 b1, b2⟩
def rowL (R : List (Int × Int)) (x : Int) : List (Int × Int) := R.filter fun p => decide (p.1 = x)
theorem rowL_mem (R : List (Int × Int)) (x : Int) (p : Int × Int) : p ∈ rowL R x ↔ p ∈ R ∧ p.1 = x := by
 unfold rowL
 rw [List.mem_filter, decide_eq_true_eq]
theorem rows_all {R : List (Int × Int)} {K : List Int} (hR : SortS pless R) (hK : SortS kless K) (h : ∀ p ∈ R, p.1 ∈ K) : K.flatMap (rowL R) = R := by
 refine SortS.ext pless_strict ?_ hR fun p => ?_
 ·refine List.pairwise_flatMap.2 ⟨fun x _ => List.Pairwise.sublist (List.filter_sublist) hR, hK.imp ?_⟩
  intro x y hxy p hp q hq
  have e1 := ((rowL_mem R x p).1 hp).2
  have e2 := ((rowL_mem R y q).1 hq).2
  have := of_decide_eq_true hxy
  unfold pless
  refine decide_eq_true ?_
  omega
 ·rw [List.mem_flatMap]
  constructor
  ·rintro ⟨x, _, hp⟩
   exact ((rowL_mem R x p).1 hp).1
  ·intro hp
   exact ⟨p.1, h p hp, (rowL_mem R p.1 p).2 ⟨hp, rfl⟩⟩
theorem row_done {R M m : List (Int × Int)} {x : Int} (hR : SortS pless R) (hM : M.Nodup) (hmem : ∀ p, p ∈ M ↔ p ∈ R ∧ p.1 = x) (hp : M.Perm m) (hs : m.Pairwise fun p q => ¬ q.2 < p.2) : m = rowL R x := by
 refine SortS.ext pless_strict ?_ (List.Pairwise.sublist (List.filter_sublist) hR) fun p => by rw [← hp.mem_iff, hmem, rowL_mem]
 have hnd : m.Nodup := hp.nodup_iff.1 hM
 refine List.pairwise_iff_getElem.2 fun i j hi hj hij => ?_
 have h1 := List.pairwise_iff_getElem.1 hs i j hi hj hij
 have h2 := List.pairwise_iff_getElem.1 hnd i j hi hj hij
 have e1 := ((hmem _).1 (hp.mem_iff.2 (List.getElem_mem hi))).2
 have e2 := ((hmem _).1 (hp.mem_iff.2 (List.getElem_mem hj))).2
 unfold pless
 refine decide_eq_true ?_
 by_cases c : m[i].2 = m[j].2
 ·exact absurd (Prod.ext (e1.trans e2.symm) c) h2
 ·omega
end Go.Proofs.YtaknmlohnifcdaaGreatDoor
end
