/-
  Package grid: the keys of a map, collected and put in order.
-/
import Derived.Test.YtnmnbogjnjbopaaDoorGridLow
import Derived.Test.YtnmnbogjnjbopaaDoorIter
import Derived.Test.YtnmnbogjnjbopaaDoorSortHigh
import Derived.RangeFuncFrom
import Derived.Sort.MapsRangeIn
import Derived.Sort.KeysCollected
namespace Go.Proofs.YtnmnbogjnjbopaaDoor
open Go.RowKit Go.Lib Go.Maps Go.Shelf Go.Sort

attribute [local go_sem] Oper.semAt_some

theorem ukey {key : Value} {kl : Lit} (h : keyOf Tryd.prog 42 key = some kl) : ∃ x, key = .int .u32 x ∧ kl = .int .u32 x := by
  cases key <;> simp [keyOf, Tryd.underlying42, mapKey] at h
  rename_i q a
  obtain ⟨⟨h1, h2⟩, h3⟩ := h
  subst h1
  exact ⟨a, rfl, h3.symm⟩
/-- What has come: some keys, each once: those that are no longer to come. -/
def CollU (D0 : DataW Unit) (left : Lit → Bool) (ss : List Int) : Prop := ss.Nodup ∧ ∀ x, x ∈ ss ↔ (Maps.has D0 (.int .u32 x) = true ∧ left (.int .u32 x) = false)
theorem CollU.start (D0 : DataW Unit) : CollU D0 (Maps.has D0) [] := ⟨List.nodup_nil, fun x => by cases h : Maps.has D0 (.int .u32 x) <;> simp⟩
theorem CollU.step {D0 : DataW Unit} {left : Lit → Bool} {ss : List Int} (h : CollU D0 left ss) {x : Int} {y : DataW Unit} (hlk : left (.int .u32 x) = true) (hat : ∀ zd, D0.atKey (.int .u32 x) zd = y) : CollU D0 (fun z => left z && !z.sameKey (.int .u32 x)) (ss ++ [x]) := by
  have hhas : Maps.has D0 (.int .u32 x) = true := has_true_of_atKey hat
  have hnew : x ∉ ss := fun hx => by
    have := ((h.2 x).1 hx).2
    rw [hlk] at this
    cases this
  refine ⟨List.nodup_append.2 ⟨h.1, by simp, fun a ha b hb e => by simp at hb; subst hb; exact hnew (e ▸ ha)⟩, fun z => ?_⟩
  rw [List.mem_append, List.mem_singleton, h.2 z]
  by_cases c : z = x
  · subst c
    simp [hhas, Lit.sameKey]
  · simp [c, Lit.sameKey]
abbrev KeysOf (D0 : DataW Unit) (ss : List Int) : Prop := ss.Nodup ∧ (∀ x, x ∈ ss ↔ Maps.has D0 (.int .u32 x) = true) ∧ ss.length ≤ Maps.size D0
abbrev encU (x : Int) : Array Value := #[.int .u32 x]
theorem nKeys : (Tryd.f67).results = #[] := by kernel_rfl

set_option maxRecDepth 100000 in
set_option maxHeartbeats 2000000 in
theorem ukeys_in (n : Nat) (_hn : 1 ≤ n) (l Bm b nn : Nat) (D0 : DataW Unit) {R : Value → Option (DataW Unit × List MemPlace)} (J Jx : List Int → World → Prop) (W : World) (hJ : AbidesFrom W.heap.size J)
    (hY : ∀ pre x W1, J pre W1 → pre.length < Maps.size D0 → YieldAt Fence.wide (n - 1) Tryd.prog l (encU x) W1 fun e W' => (e = .returned (.bool true) ∧ J (pre ++ [x]) W' ∧ KeepsWalks W1 W') ∨ (e = .returned (.bool false) ∧ Jx (pre ++ [x]) W'))
    (hm : W.cell? ⟨Bm, 0, none⟩ = some (.map (some b))) (hown : W.ownsMap Tryd.prog 42 R b nn D0) (h0 : J [] W) :
    CallsIn Fence.wide n Tryd.prog 67 #[.func (.yield l) #[] #[], .pointer (some ⟨Bm, 0, none⟩)] W fun e W' => (∃ v, e = .returned v) ∧ ((∃ xs, KeysOf D0 xs ∧ J xs W') ∨ (∃ pre : List Int, True ∧ Jx pre W')) := by
  refine callsIn_of_wp Tryd.func67 rfl trivial ?_ rfl
  simp only [Tryd.ntmps67, List.size_toArray, List.length_cons, List.length_nil, Nat.reduceAdd, Nat.reduceSub, Array.replicate_succ, Array.replicate_zero, List.push_toArray, List.append_toArray, List.nil_append, List.cons_append]
  gi_wp2_with (first
    | (gi_at_range; refine wpListIn_range_own _ rfl _ 75 rfl 42 82 law32 Tryd.underlying75 _ b nn _ rfl hown ?_; intro w0 hrg0 hg0 hs0)
    | gi_in)
  go_frame
  gi_loopw [3] (fun _ wr => ∃ (left : Lit → Bool) (cnt : Nat) (ss : List Int), wr.ranges Tryd.prog 42 R b W.heap.size nn D0 left cnt ∧ ss.length + cnt ≤ Maps.size D0 ∧ CollU D0 left ss ∧ J ss wr)
    (fun _ wr => wr.rangeLeft b W.heap.size)
  case atStart => exact ⟨_, _, [], hrg0, by simp, CollU.start D0, hJ [] W w0 none h0 hg0 (fun r e => by cases e)⟩
  case round =>
    obtain ⟨left, cnt, ss, hrg, hcs, hC, hJs⟩ := hrel
    gi_wp2_with (first
      | (gi_at_next; refine wpListIn_next_ranges _ rfl _ rfl 42 law32 R (Value.int .u32) id (fun key kl hk => by obtain ⟨x, hx, _⟩ := ukey hk; exact ⟨x, hx⟩) (fun v _ _ => ⟨v, rfl⟩) b W.heap.size nn _ _ _ rfl hrg ?_ ?_)
      | gi_in)
    · intro hc0 hl0
      gi_wp2
      go_end0
      exact ⟨⟨_, rfl⟩, .inl ⟨ss, ⟨hC.1, fun x => by rw [hC.2 x, hl0]; simp, by omega⟩, hJs⟩⟩
    · intro x c kl yd yp w2 cnt2 hkey hlk hv hat hrg2 hlt hg2 hs2 hen
      obtain ⟨x', ex, rfl⟩ := ukey hkey
      obtain rfl : x = x' := by injection ex
      have hJ2 : J ss w2 := hJ ss wr w2 (some W.heap.size) hJs hg2 (fun r e => by cases e; exact ⟨Nat.le_refl _, hrg.iter_walk⟩)
      obtain ⟨fn, tmps, assign, body, hy, hR⟩ := hY ss x w2 hJ2 (by omega)
      have hC2 := hC.step hlk hat
      clear hs2
      gi_wp2
      refine hR.mono ?_
      rintro e W3 (⟨rfl, hJ3, hk3⟩ | ⟨rfl, hJx3⟩)
      · gi_wp2
        have hrg3 := hrg2.of_walks hk3
        go_roundw
        case rel => exact ⟨_, cnt2, ss ++ [x], hrg3, by simp; omega, hC2, hJ3⟩
        case measure => rw [hrg3.left_eq, hrg.left_eq]; exact hlt
      · gi_wp2
        refine bodyPost_ret (results_none rfl _ _ _) rfl ?_
        exact ⟨⟨_, rfl⟩, .inr ⟨_, trivial, hJx3⟩⟩
theorem map_bel {w w' : World} {R : Value → Option (DataW Unit × List MemPlace)} {k : TypeId} {b n : Nat} {D : DataW Unit} (h : w.ownsMap Tryd.prog k R b n D) (g : Bel w w') : w'.ownsMap Tryd.prog k R b n D := by
  have hlt := h.lt
  obtain ⟨es, clock, hb, F, hs, hD⟩ := h
  exact ⟨es, clock, (g.block b hlt).trans hb, F, hs, hD⟩
/-- The iterator over a map's keys. -/
theorem ukeys_seq (Bm b nn : Nat) (D0 : DataW Unit) {R : Value → Option (DataW Unit × List MemPlace)} (w : World) (hm : w.cell? ⟨Bm, 0, none⟩ = some (.map (some b))) (hown : w.ownsMap Tryd.prog 42 R b nn D0) :
    SeqStopsK Fence.wide 4 Tryd.prog 67 #[.pointer (some ⟨Bm, 0, none⟩)] encU KeepsWalks (KeysOf D0) (fun _ => True) (Maps.size D0) w :=
  fun l J Jx W hW hJ _ hY h0 => ukeys_in 4 (by decide) l Bm b nn D0 J Jx W hJ hY (bel_all hW hm) (map_bel hown hW) h0
theorem ukeys_any (b : Nat) (w : World) : Calls Tryd.prog 41 #[.map (some b)] w fun e w' => e = .returned (.func (.func 67) #[] #[.pointer (some ⟨w.heap.size, 0, none⟩)]) ∧ w' = w.alloc (.cells #[.map (some b)] 75) := by
  go_enter Tryd.func41, Tryd.ntmps41
  go_wp2
  go_ret
  exact ⟨rfl, rfl⟩
theorem info_u32 : (Tryd.prog.info? 42).map (fun i => (i.zero, i.size, i.bytes)) = some (some (.int .u32 0), 1, 4) := by kernel_rfl
set_option maxRecDepth 100000 in
set_option maxHeartbeats 4000000 in
theorem uapp_any (Bm : Nat) (D0 : DataW Unit) (N : Nat) (hN : N ≤ 1000000000) (w : World)
    (HS : ∀ W, Bel w W → SeqStopsK Fence.wide 4 Tryd.prog 67 #[.pointer (some ⟨Bm, 0, none⟩)] encU KeepsWalks (KeysOf D0) (fun _ => True) N W) :
    Calls Tryd.prog 82 #[.slice none 0 0, .func (.func 67) #[] #[.pointer (some ⟨Bm, 0, none⟩)]] w fun e w' => ∃ v ss, e = .returned v ∧ KeysOf D0 ss ∧ w'.ownsRow w.heap.size 42 1 v ss.length (ss.flatMap kv) ∧ Bel w w' := by
  refine (callsIn_wide (n := 5)).1 ?_
  refine callsIn_of_wp_marks Tryd.func82 rfl trivial ?_ rfl
  simp only [Tryd.ntmps82, List.size_toArray, List.length_cons, List.length_nil, Nat.reduceAdd, Nat.reduceSub, Array.replicate_succ, Array.replicate_zero, List.push_toArray, List.append_toArray, List.nil_append, List.cons_append]
  gi_wp2
  have hB0 : Below w.heap.size w (w.alloc (.cells #[.slice none 0 0] 27)) := (Below.refl _ w).alloc (Nat.le_refl _) _
  have bL : Boxed (w.alloc (.cells #[.slice none 0 0] 27)) w.heap.size 27 (.slice none 0 0) := Boxed.new w _ _
  have ST := HS _ hB0
  have hsz : (w.alloc (.cells #[.slice none 0 0] 27)).heap.size = w.heap.size + 1 := by simp
  generalize w.alloc (.cells #[.slice none 0 0] 27) = W0 at *
  clear HS
  refine wpIn_rangeFunc_ownF rfl (by decide) (gf := 67) (lb := #[.pointer (some ⟨Bm, 0, none⟩)]) rfl trivial (enters_of Tryd.func67 (by kernel_rfl) rfl)
    ST walksK_t walksK_b (Below.refl _ _) (fun _ => rfl)
    (fun (pre : List Int) W => (∃ v, Boxed W w.heap.size 27 v ∧ W.ownsRow w.heap.size 42 1 v pre.length (pre.flatMap kv) ∧ True) ∧ Below w.heap.size w W)
    (fun _ _ _ => False)
    (OwnFrom.and (Own.from (holdsRow_own w.heap.size w.heap.size 27 42 1 (fun (pre : List Int) => pre.length) (fun pre => pre.flatMap kv) (fun _ _ => True)) _) (ownFrom_below (Nat.le_refl _) (by omega)))
    (fun _ _ _ _ _ hs _ _ => hs)
    ⟨⟨_, bL, World.ownsRow_nil _ _ _ _, trivial⟩, hB0⟩
    (fun x => { tmps := #[.slice none 0 0, .func (.func 67) #[] #[.pointer (some ⟨Bm, 0, none⟩)], .pointer (some ⟨w.heap.size, 0, none⟩), undef, .slice none 0 0, .int .u32 x, .func (.func 67) #[] #[.pointer (some ⟨Bm, 0, none⟩)], .int .u32 x, undef, undef, undef, undef, undef], defers := [] }) ?assign ?body ?done ?stop
  case assign =>
    intro l x W K hK
    gi_wp2
    exact hK
  case body =>
    rintro l pre x W ⟨⟨v, hv, hrow, _⟩, hB⟩ hlt
    have hc := hv.cell
    gi_wp2_with (gi_at_builtin; refine wpListIn_app kv 1 kv_len kv_one rfl _ _ 27 rfl 42 _ 4 Tryd.underlying27 info_u32 rfl (by decide) w.heap.size _ _ pre x rfl hrow _ (by first | rfl | simp) rfl _ rfl (by unfold maxLen; omega) (by omega) hB.size ?_; intro g cap w1 hown hgrow hfr; obtain ⟨hv1, hv2, hr2, hk2, hb2⟩ := hv.appended (by decide) hrow hB.size (by omega) hown hgrow; have hc1 := hv1.cell; have hf1 := hv1.frozen)
    exact ⟨hk2, hk2.walks, ⟨⟨_, hv2, by first | exact hr2 | exact ⟨hr2, trivial⟩⟩, hB.trans hb2⟩⟩
  case done =>
    rintro D ys W hD hys ⟨⟨v, hv, hrow, _⟩, hB⟩ hK
    have hc := hv.cell
    gi_wp2
    refine ⟨by simp, .inl ⟨_, _, rfl, run_takeDeferred hK, ?_⟩⟩
    exact ⟨_, results_tmp rfl _ _ _, v, ys, rfl, hys, ownsRow_putObj hrow _ hK rfl, hB.trans (belowK_b (w := w) (Nat.le_refl _) W D _ _ (by omega) hK rfl rfl)⟩
  case stop =>
    rintro D c pre W _ _ h _
    exact h.elim
theorem ucol_any (Bm : Nat) (D0 : DataW Unit) (N : Nat) (hN : N ≤ 1000000000) (w : World)
    (HS : ∀ W, Bel w W → SeqStopsK Fence.wide 4 Tryd.prog 67 #[.pointer (some ⟨Bm, 0, none⟩)] encU KeepsWalks (KeysOf D0) (fun _ => True) N W) :
    Calls Tryd.prog 65 #[.func (.func 67) #[] #[.pointer (some ⟨Bm, 0, none⟩)]] w fun e w' => ∃ v ss, e = .returned v ∧ KeysOf D0 ss ∧ w'.ownsRow w.heap.size 42 1 v ss.length (ss.flatMap kv) ∧ Bel w w' := by
  have C := Lib.hid (uapp_any Bm D0 N hN w HS)
  clear HS
  go_enter Tryd.func65, Tryd.ntmps65
  go_wp2_with ((with_reducible refine (C.out).mono ?_); rintro e w1 ⟨v, ss, rfl, h1, h2, h3⟩)
  go_ret
  exact ⟨v, ss, rfl, h1, h2, h3⟩
theorem flat_kv (ss : List Int) : ss.flatMap kv = ss.map ku := by
  induction ss with
  | nil => rfl
  | cons a l ih => simp [ih]; rfl
theorem ksort_pair {a b : Nat} {R : Array Int} (hs : SortedIn ltInt a b R) (ha : a = 0) (hb : b = R.size) (hd : R.toList.Nodup) : SortS kless R.toList := by
  subst ha hb
  refine List.pairwise_iff_getElem.2 fun i j hi hj hij => ?_
  have hj' : j < R.size := by simpa using hj
  have q := hs i j (Nat.zero_le _) hij hj'
  have gi : R[i]! = R.toList[i] := by rw [getElem!_pos R i (by simpa using hi)]; simp
  have gj : R[j]! = R.toList[j] := by rw [getElem!_pos R j hj']; simp
  rw [gi, gj] at q
  have ne := List.pairwise_iff_getElem.1 hd i j hi hj hij
  unfold ltInt at q
  unfold kless
  simp at q ⊢
  simp at ne
  omega
theorem usort_empty (w : World) (p : Option Addr) (cap : Nat) : Calls Tryd.prog 66 #[.slice p 0 cap] w fun e w' => e = .returned (.tuple #[]) ∧ w = w' := by
  have hi : Hid (∀ W, Calls Tryd.prog 105 #[.slice p 0 cap, .int .i64 0, .int .i64 0] W fun e w' => e = .returned (.tuple #[]) ∧ W = w') := Lib.hid fun W => by
    go_enter Tryd.func105, Tryd.ntmps105
    go_wp2
    refine wp_loop_rounds 1 ?_
    rw [rounds_succ]
    go_wp2
    go_end0
    exact ⟨rfl, rfl⟩
  have hp : Hid (∀ (lim : Int) W, Calls Tryd.prog 83 #[.slice p 0 cap, .int .i64 0, .int .i64 0, .int .i64 lim] W fun e w' => e = .returned (.tuple #[]) ∧ W = w') := Lib.hid fun lim W => by
    go_enter Tryd.func83, Tryd.ntmps83
    go_wp2
    refine wp_loop_rounds 1 ?_
    rw [rounds_succ]
    go_wp2_with ((with_reducible refine (hi.out _).mono ?_); rintro e w' ⟨rfl, rfl⟩)
    (try simp only [Exit.inBlock, Exit.then]); refine bodyPost_ret (results_none rfl _ _ _) rfl ?_
    exact ⟨rfl, rfl⟩
  have hl : Hid (∀ W, Calls Tryd.prog 70 #[.int .u64 0] W fun e w' => e = .returned (.int .i64 (Lib.bitLen 0 : Nat)) ∧ w' = W) := Lib.hid fun W => by
    have h := Any.bits_Len (SlLaysF0.n15.bits (P := Tryd.prog) (ρ := sortP_ren) { sortP with }) 0 W (by omega) (by omega)
    exact h
  go_enter Tryd.func66, Tryd.ntmps66
  go_wp2_with (first | ((with_reducible refine (hl.out _).mono ?_); rintro e w' ⟨rfl, rfl⟩) | ((with_reducible refine (hp.out _ _).mono ?_); rintro e w' ⟨rfl, rfl⟩))
  go_end0
  exact ⟨rfl, rfl⟩
/-- slices.Sort of a slice of the call's own, no number twice. -/
theorem usort_own {w : World} {B : Nat} {v : Value} {ss : List Int} (h : w.ownsRow B 42 1 v ss.length (ss.flatMap kv)) (hn : ss.length ≤ 1000000000) (hd : ss.Nodup) :
    Calls Tryd.prog 66 #[v] w fun e w' => e = .returned (.tuple #[]) ∧ (∃ m, ss.Perm m ∧ SortS kless m ∧ Sq kv 1 w' v m) ∧ (∀ k, v.ownBlock = some k → B ≤ k) ∧ Kep B w w' := by
  rcases h.2 with ⟨rfl, h0⟩ | ⟨g, cap, cur, rfl, hB, hg, hc, _⟩
  · obtain rfl := List.length_eq_zero_iff.1 h0
    exact (usort_empty w none 0).mono fun e w' ⟨h1, h2⟩ => ⟨h1, ⟨[], List.Perm.refl _, List.Pairwise.nil, Sq.nil⟩, (fun k e => by cases e), h2 ▸ Kep.refl _ _⟩
  · have hlt : g < w.heap.size := (Array.getElem?_eq_some_iff.1 hg).1
    have hh : Holds ku w g 0 ss.toArray := fun j hj => by
      have hj' : j < ss.length := by simpa using hj
      rw [Nat.zero_add]
      refine ⟨?_, h.frozenAt j⟩
      rw [h.cellAt j (by simpa using hj'), flat_kv]
      simp [hj']
    have C := usort_any g 0 cap ss.toArray w hh hlt (by simp; omega) (by simpa using hd)
    rw [show ss.toArray.size = ss.length by simp] at C
    refine C.mono fun e w' ⟨h1, R, ⟨hp, hs⟩, k⟩ => ⟨h1, ?_, (fun j e => by have e2 : some g = some j := e; injection e2 with e2; omega), ?_⟩
    · have hsz : R.size = ss.length := k.sz
      have hpm : ss.Perm R.toList := by
        have q := hp.2.2
        rw [show ss.length = ss.toArray.size by simp, Array.extract_eq_self_of_le (Nat.le_of_eq (by rw [hsz]; simp)), Array.extract_eq_self_of_le (Nat.le_refl _)] at q
        exact q.symm
      refine ⟨R.toList, hpm, ksort_pair hs rfl hsz.symm (hpm.nodup_iff.1 hd), ?_⟩
      have hlen : R.toList.length = ss.length := by simpa using hsz
      refine ⟨_, cap, by rw [hlen], fun i x hx => ⟨g, 0, rfl, fun q u hu => ?_⟩⟩
      have hi := (List.getElem?_eq_some_iff.1 hx).1
      obtain ⟨G, hG⟩ := AW.name R
      have hcell := k.cell hG i (by omega)
      obtain rfl : q = 0 := by
        have := (List.getElem?_eq_some_iff.1 hu).1
        rw [kv_len] at this
        omega
      have hu2 : some (Value.int .u32 x) = some u := hu
      injection hu2 with hu3
      subst hu3
      rw [show 0 + i * 1 + 0 = 0 + i by omega, hcell, hG]
      have hi2 : i < R.size := by simpa using hi
      rw [getElem!_pos R i hi2]
      have := (List.getElem?_eq_some_iff.1 hx).2
      simp at this
      rw [this]
    · obtain ⟨n, os, hw⟩ := k.sw
      subst hw
      refine ⟨rfl, rfl, SW.le ⟨n, os, rfl⟩, fun j hj => ?_⟩
      unfold sortWorld putRow
      rw [heap_grow_old _ _ (by simp [mapBlock]; omega)]
      simp only [mapBlock, heap_ahead]
      rw [Array.getElem?_modify, if_neg (by omega)]
/-- slices.Sorted of a map's keys. -/
theorem usorted_any (Bm : Nat) (D0 : DataW Unit) (hN : Maps.size D0 ≤ 1000000000) (w : World)
    (HS : ∀ W, Bel w W → SeqStopsK Fence.wide 4 Tryd.prog 67 #[.pointer (some ⟨Bm, 0, none⟩)] encU KeepsWalks (KeysOf D0) (fun _ => True) (Maps.size D0) W) :
    Calls Tryd.prog 40 #[.func (.func 67) #[] #[.pointer (some ⟨Bm, 0, none⟩)]] w fun e w' => ∃ v K, e = .returned v ∧ (SortS kless K ∧ (∀ x, x ∈ K ↔ Maps.has D0 (.int .u32 x) = true) ∧ K.length ≤ Maps.size D0) ∧ (Sq kv 1 w' v K ∧ Fresh w v) ∧ Kep w.heap.size w w' := by
  have C := Lib.hid (ucol_any Bm D0 (Maps.size D0) hN w HS)
  have HL := Lib.hid hN
  clear HS hN
  go_enter Tryd.func40, Tryd.ntmps40
  go_wp2_with (first
    | ((with_reducible refine (C.out).mono ?_); rintro e w1 ⟨v, ss, rfl, h1, h2, h3⟩; have C2 := Lib.hid (usort_own h2 (Nat.le_trans h1.2.2 HL.out) h1.1); clear C)
    | ((with_reducible refine (C2.out).mono ?_); rintro e w2 ⟨rfl, ⟨m, q1, q2, q3⟩, q4, k2⟩))
  go_ret
  exact ⟨v, m, rfl, ⟨q2, fun x => by rw [← q1.mem_iff, h1.2.1], by rw [← q1.length_eq]; exact h1.2.2⟩, ⟨q3, q4⟩, (Kep.of_below h3).trans k2⟩
end Go.Proofs.YtnmnbogjnjbopaaDoor
