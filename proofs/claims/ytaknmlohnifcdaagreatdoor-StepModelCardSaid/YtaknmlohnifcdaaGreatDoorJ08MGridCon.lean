import Derived.Test.YtaknmlohnifcdaaGreatDoorJ06MBodyFun
import Derived.Deep.DeepCutAuto
import Derived.Deep.QuietTactic
import Derived.BigQuiet
import Derived.Test.YtaknmlohnifcdaaGreatDoorJ04MSortMath
import Derived.Test.YtaknmlohnifcdaaGreatDoorJ05MStorePut
import Derived.Test.YtaknmlohnifcdaaGreatDoorJ02MSeq
import Derived.Shelf.Spec.SlicesInsertGrow
import Derived.Laws.OwnMore
set_option maxHeartbeats 4000000
set_option maxRecDepth 100000
namespace Go.Proofs.YtaknmlohnifcdaaGreatDoor
open Go.RowKit Go.Lib
structure Oth (S : Nat → Prop) (w w' : World) : Prop where
 os : w'.os = w.os
 output : w'.output = w.output
 size : w.heap.size ≤ w'.heap.size
 block : ∀ k, k < w.heap.size → ¬ S k → w'.heap[k]? = w.heap[k]?
theorem Oth.of_kep {S : Nat → Prop} {w w' : World} (h : Kep w.heap.size w w') : Oth S w w' := ⟨h.os, h.output, h.size, fun k hk _ => h.block k hk⟩
theorem Oth.kep {S : Nat → Prop} {B : Nat} {w w' : World} (h : Oth S w w') (hB : B ≤ w.heap.size) (hS : ∀ k, S k → B ≤ k) : Kep B w w' := ⟨h.os, h.output, h.size, fun k hk => h.block k (by omega) (fun s => by have := hS k s; omega)⟩
def More (w : World) (S S' : Nat → Prop) : Prop := ∀ k, S' k → S k ∨ w.heap.size ≤ k
theorem More.refl (w : World) (S : Nat → Prop) : More w S S := fun _ h => .inl h
theorem More.trans {w w' : World} {S S' S'' : Nat → Prop} (h : More w S S') (hs : w.heap.size ≤ w'.heap.size) (k : More w' S' S'') : More w S S'' := fun j q => by
 rcases k j q with q | q
 ·exact h j q
 ·exact .inr (Nat.le_trans hs q)
theorem Oth.trans {S S' : Nat → Prop} {a b c : World} (h : Oth S a b) (m : More a S S') (k : Oth S' b c) : Oth S a c :=
 ⟨k.os.trans h.os, k.output.trans h.output, Nat.le_trans h.size k.size, fun i hi hn => (k.block i (Nat.lt_of_lt_of_le hi h.size) (fun q => by rcases m i q with q | q; exact hn q; omega)).trans (h.block i hi hn)⟩
theorem Oth.cell {S : Nat → Prop} {w w' : World} (h : Oth S w w') {b o : Nat} {v : Value} (hb : ¬ S b) (hv : w.cell? ⟨b, o, none⟩ = some v) : w'.cell? ⟨b, o, none⟩ = some v :=
 (World.cell?_of_block (w := w) (h.block b (World.block_lt_of_cell? _ _ hv) hb)).trans hv
def Off (S : Nat → Prop) (v : Value) : Prop := ∀ g, v.ownBlock = some g → ¬ S g
theorem Sq.oth {α : Type} {f : α → List Value} {n : Nat} {w w' : World} {v : Value} {L : List α} {S : Nat → Prop} (h : Sq f n w v L) (ha : L ≠ [] → Off S v) (k : Oth S w w') : Sq f n w' v L := by
 obtain ⟨base, cap, rfl, hc⟩ := h
 refine ⟨base, cap, rfl, fun j x hx => ?_⟩
 obtain ⟨g, off, rfl, hi⟩ := hc j x hx
 exact ⟨g, off, rfl, fun i u hu => k.cell (ha (fun e => by rw [e] at hx; simp at hx) g rfl) (hi i u hu)⟩
def Fresh (w : World) (v : Value) : Prop := ∀ g, v.ownBlock = some g → w.heap.size ≤ g
theorem fresh_own {w w' : World} {B : Nat} {t : TypeId} {size n : Nat} {v : Value} {xs : List Value} (h : w'.ownsRow B t size v n xs) (hB : w.heap.size ≤ B) : Fresh w v := fun g e => Nat.le_trans hB (h.lt g e).1
def EntOk (e : Ent) : Prop := (Lit.int .u32 e.k).wf = true ∧ FitE e ∧ (cellsB e.a e.b e.c e.d).length ≤ 50
theorem kless_any (x y : Int) (w : World) : Calls Tryz.prog 169 #[.int .u32 x, .int .u32 y] w fun e w' => e = .returned (.bool (decide (x < y))) ∧ w = w' := by
 by_cases c : x < y
 ·rw [decide_eq_true c]
  go_enter Tryz.func169, Tryz.ntmps169
  go_wp2
  go_ret
  exact ⟨rfl, rfl⟩
 ·rw [decide_eq_false c]
  go_enter Tryz.func169, Tryz.ntmps169
  go_wp2
  go_ret
  exact ⟨rfl, rfl⟩
theorem knan_any (x : Int) (w : World) : Calls Tryz.prog 170 #[.int .u32 x] w fun e w' => e = .returned (.bool false) ∧ w = w' := by
 have e : (x != x) = false := by simp
 go_enter Tryz.func170, Tryz.ntmps170
 go_wp2
 go_ret
 exact ⟨rfl, rfl⟩
def lessN (K : List Int) (key : Int) : Nat := (K.takeWhile fun x => kless x key).length
theorem lessN_le (K : List Int) (key : Int) : lessN K key ≤ K.length := by
 unfold lessN
 exact List.Sublist.length_le (List.takeWhile_sublist _)
theorem lessN_iff : ∀ {K : List Int} {key x : Int} {m : Nat}, SortS kless K → K[m]? = some x → (x < key ↔ m < lessN K key)
 | [], _, _, _, _, h => by simp at h
 | y :: K, key, x, m, hs, h => by
   obtain ⟨h1, h2⟩ := List.pairwise_cons.1 hs
   unfold lessN
   by_cases c : kless y key = true
   ·rw [List.takeWhile_cons_of_pos (p := fun x => kless x key) c, List.length_cons]
    have c' := of_decide_eq_true c
    cases m with
    | zero =>
      simp at h
      subst h
      exact ⟨fun _ => Nat.succ_pos _, fun _ => c'⟩
    | succ m =>
      have := lessN_iff (key := key) h2 (by simpa using h : K[m]? = some x)
      unfold lessN at this
      rw [this]
      omega
   ·rw [List.takeWhile_cons_of_neg (p := fun x => kless x key) c, List.length_nil]
    have c' : ¬ y < key := fun q => c (decide_eq_true q)
    refine ⟨fun q => ?_, fun q => absurd q (Nat.not_lt_zero _)⟩
    cases m with
    | zero =>
      simp at h
      subst h
      exact absurd q c'
    | succ m =>
      have hx : x ∈ K := List.mem_of_getElem? (i := m) (by simpa using h)
      have := of_decide_eq_true (h1 x hx)
      omega
theorem lessN_in {K : List Int} {key x : Int} (hs : SortS kless K) (h : K[lessN K key]? = some x) : x = key ↔ key ∈ K := by
 have h1 := (lessN_iff (key := key) hs h).1
 refine ⟨fun e => e ▸ List.mem_of_getElem? h, fun e => ?_⟩
 obtain ⟨m, hm⟩ := List.getElem?_of_mem e
 have h2 := (lessN_iff (key := key) hs hm).2
 have h3 : ¬ m < lessN K key := fun q => by have := h2 q; omega
 by_cases c : m = lessN K key
 ·subst c
  rw [hm] at h
  injection h with h
  exact h.symm
 ·obtain ⟨l1, e1⟩ := List.getElem?_eq_some_iff.1 h
  obtain ⟨l2, e2⟩ := List.getElem?_eq_some_iff.1 hm
  have := of_decide_eq_true (List.pairwise_iff_getElem.1 hs _ _ l1 l2 (by omega))
  rw [e1, e2] at this
  have := h1 this
  omega
theorem lessN_out {K : List Int} {key : Int} (hs : SortS kless K) (h : K.length ≤ lessN K key) : ¬ key ∈ K := fun e => by
 obtain ⟨m, hm⟩ := List.getElem?_of_mem e
 have l := (List.getElem?_eq_some_iff.1 hm).1
 have := (lessN_iff (key := key) hs hm).2 (by omega)
 omega
theorem putS_has {K : List Int} {key : Int} (hs : SortS kless K) (h : key ∈ K) : putS kless K key = K :=
 SortS.ext kless_strict (putS_sort kless_strict hs) hs fun x => by
  rw [putS_mem kless_strict hs]
  exact ⟨fun q => q.elim (fun e => e ▸ h) id, .inr⟩
theorem putS_new {K : List Int} {key : Int} (hs : SortS kless K) (h : ¬ key ∈ K) : putS kless K key = K.take (lessN K key) ++ key :: K.drop (lessN K key) := by
 have t : K.takeWhile (fun x => kless x key) = K.take (lessN K key) ∧ K.dropWhile (fun x => kless x key) = K.drop (lessN K key) :=
  take_while (fun x hx => by
   obtain ⟨m, hm⟩ := List.getElem?_of_mem hx
   have l := (List.getElem?_eq_some_iff.1 hm).1
   rw [List.length_take] at l
   rw [List.getElem?_take_of_lt (by omega)] at hm
   exact decide_eq_true ((lessN_iff hs hm).2 (by omega))) (fun x hx => decide_eq_false fun q => by have := (lessN_iff hs hx).1 q; omega)
 unfold putS
 rw [t.1, t.2]
 congr 2
 cases c : K.drop (lessN K key) with
 | nil => rfl
 | cons y l =>
   rw [dropOne_cons, if_neg (fun e => h ?_)]
   have : y ∈ K.drop (lessN K key) := by rw [c]; simp
   rw [← e]
   exact List.mem_of_mem_drop this
theorem ksq_at {w : World} {base : Option Addr} {n cap k : Nat} {K : List Int} {x : Int} (h : Sq kv 1 w (.slice base n cap) K) (hx : K[k]? = some x) : ∃ g off, base = some ⟨g, off, none⟩ ∧ w.cell? ⟨g, off + k, none⟩ = some (.int .u32 x) := by
 obtain ⟨b, c, e, hc⟩ := h
 injection e with e1 e2 e3
 subst e1
 obtain ⟨g, off, e, hi⟩ := hc k x hx
 have := hi 0 _ rfl
 rw [Nat.mul_one] at this
 exact ⟨g, off, e, this⟩
theorem ksearch (base : Option Addr) (cap : Nat) (L : List Int) (key : Int) (w : World) (h : Sq kv 1 w (.slice base L.length cap) L) (hl : L.length ≤ 1000000) (asc : SortS kless L) :
 Calls Tryz.prog 140 #[.slice base L.length cap, .int .u32 key] w fun e w' => e = .returned (.tuple #[.int .i64 (lessN L key), .bool (decide (key ∈ L))]) ∧ w = w' := by
 obtain ⟨n, hn⟩ : ∃ n, n = L.length := ⟨_, rfl⟩
 have HN := Lib.hid hn.symm
 rw [← hn] at h hl ⊢
 have H := Lib.hid h
 have HA := Lib.hid asc
 have hle := lessN_le L key
 rw [← hn] at hle
 have hout := lessN_out (key := key) asc
 rw [← hn] at hout
 have hin := fun x => lessN_in (key := key) (x := x) asc
 obtain ⟨t, ht⟩ : ∃ t, t = lessN L key := ⟨_, rfl⟩
 rw [← ht] at hle hout hin ⊢
 have HT := Lib.hid ht.symm
 obtain ⟨z, hz⟩ : ∃ z, z = decide (key ∈ L) := ⟨_, rfl⟩
 have HO : Hid (n ≤ t → z = false) := Lib.hid fun q => by rw [hz]; exact decide_eq_false (hout q)
 have HI : Hid (∀ x, L[t]? = some x → decide (x = key) = z) := Lib.hid fun x q => by rw [hz]; exact decide_eq_decide.2 (hin x q)
 rw [← hz]
 have hl' : (n : Int) ≤ 1000000 := by omega
 have LA := Lib.hid (fun x w => kless_any x key w)
 have NA := Lib.hid (fun x w => knan_any x w)
 clear hn h asc ht hz hout hin
 go_enter Tryz.func140, Tryz.ntmps140
 go_wp2
 go_loop [7, 8] (fun lo hi => ∃ a b : Nat, a ≤ t ∧ t ≤ b ∧ b ≤ n ∧ lo = .int .i64 a ∧ hi = .int .i64 b) (fun lo hi => (RowKit.intOf hi).toNat - (RowKit.intOf lo).toNat)
 case atStart => exact ⟨0, n, by omega, hle, by omega, rfl, rfl⟩
 case round =>
  obtain ⟨a, b, ha, hb, hbn, rfl, rfl⟩ := hrel
  by_cases hlt : a < b
  ·obtain ⟨s, hs⟩ : ∃ s : Nat, s = a + b := ⟨_, rfl⟩
   obtain ⟨m, hm⟩ : ∃ m : Nat, m = s / 2 := ⟨_, rfl⟩
   have r0 : (a : Int) + (b : Int) = (s : Int) := by omega
   have r1 : (s : Int) / 2 = (m : Int) := by omega
   have s0 : (0 : Int) ≤ (s : Int) := Int.natCast_nonneg _
   have s1 : (s : Int) ≤ 2000000 := by omega
   have hmb : m < b := by omega
   have ham : a ≤ m := by omega
   have hmn : m < n := by omega
   have i0 : (0 : Int) ≤ (m : Int) := Int.natCast_nonneg _
   have i1 : (m : Int) < (n : Int) := by omega
   have hx : L[m]? = some (L[m]'(by rw [HN.out]; exact hmn)) := List.getElem?_eq_getElem _
   generalize L[m]'(by rw [HN.out]; exact hmn) = x at hx
   obtain ⟨g1, off1, hb1, x0⟩ := ksq_at H.out hx
   subst hb1
   have hq := lessN_iff (key := key) HA.out hx
   rw [HT.out] at hq
   clear hx hs hm
   by_cases c : x < key
   ·have q := hq.1 c
    have c2 : decide (x < key) = true := decide_eq_true c
    clear hq
    go_wp2_with ((with_reducible refine (LA.out _ _).mono ?_); rintro e w5 ⟨rfl, rfl⟩)
    go_round
    case rel => exact ⟨m + 1, b, by omega, hb, hbn, by go_num, rfl⟩
    case measure => simp [RowKit.intOf]; omega
   ·have q : t ≤ m := Nat.le_of_not_lt fun q => c (hq.2 q)
    have c2 : decide (x < key) = false := decide_eq_false c
    clear hq
    go_wp2_with ((with_reducible refine (LA.out _ _).mono ?_); rintro e w5 ⟨rfl, rfl⟩)
    go_round
    case rel => exact ⟨a, m, ha, q, by omega, rfl, rfl⟩
    case measure => simp [RowKit.intOf]; omega
  ·have e : a = b := by omega
   subst e
   have e : a = t := by omega
   subst e
   by_cases c : a < n
   ·have hx : L[a]? = some (L[a]'(by rw [HN.out]; exact c)) := List.getElem?_eq_getElem _
    generalize L[a]'(by rw [HN.out]; exact c) = x at hx
    obtain ⟨g1, off1, hb1, x0⟩ := ksq_at H.out hx
    subst hb1
    have i0 : (0 : Int) ≤ (a : Int) := Int.natCast_nonneg _
    have i1 : (a : Int) < (n : Int) := by omega
    have y := HI.out x hx
    clear hx
    by_cases ck : x = key
    ·rw [decide_eq_true ck] at y
     subst ck y
     go_wp2_with ((with_reducible refine (NA.out _ _).mono ?_); rintro e w5 ⟨rfl, rfl⟩)
     go_ret2
     exact ⟨rfl, rfl⟩
    ·rw [decide_eq_false ck] at y
     subst y
     have e2 : (x == key) = false := beq_eq_false_iff_ne.2 ck
     go_wp2_with ((with_reducible refine (NA.out _ _).mono ?_); rintro e w5 ⟨rfl, rfl⟩)
     go_ret2
     exact ⟨rfl, rfl⟩
   ·have e := HO.out (by omega)
    subst e
    have c2 : (n : Int) ≤ (a : Int) := by omega
    have c3 : decide ((a : Int) < (n : Int)) = false := decide_eq_false (by omega)
    go_wp2_with fail
    go_ret2
    exact ⟨rfl, rfl⟩
theorem info_kk : (Tryz.prog.info? 36).map (fun i => (i.zero, i.size, i.bytes)) = some (some (.int .u32 0), 1, 4) := by kernel_rfl
theorem kvs_len (K : List Int) : (K.flatMap kv).length = K.length := by rw [cat_len kv_len, Nat.mul_one]
theorem kvs_take (K : List Int) (i : Nat) : (K.flatMap kv).take i = (K.take i).flatMap kv := by
 induction K generalizing i with
 | nil => simp
 | cons x K ih => cases i with
   | zero => simp
   | succ i => simp [kv, ih]
theorem kvs_drop (K : List Int) (i : Nat) : (K.flatMap kv).drop i = (K.drop i).flatMap kv := by
 induction K generalizing i with
 | nil => simp
 | cons x K ih => cases i with
   | zero => simp
   | succ i => simp [kv, ih]
theorem kvs_one (K : List Int) : ∀ u ∈ K.flatMap kv, u.oneCell' = true := fun u hu => by
 obtain ⟨x, _, hx⟩ := List.mem_flatMap.1 hu
 exact kv_one x u hx
def overL (xs : List Value) (o : Nat) (vs : List Value) : List Value := xs.take o ++ vs ++ xs.drop (o + vs.length)
theorem overL_set {xs : List Value} {o : Nat} {v : Value} {r : List Value} (h : o + (v :: r).length ≤ xs.length) : overL (xs.set o v) (o + 1) r = overL xs o (v :: r) := by
 have ho : o < xs.length := by simp at h; omega
 unfold overL
 rw [List.take_set, List.drop_set_of_lt (by omega), List.take_add_one, List.getElem?_eq_getElem ho, List.length_cons]
 rw [show (xs.take o ++ (some xs[o]).toList).set o v = xs.take o ++ [v] by
  rw [List.set_append_right _ _ (by simp; omega)]
  simp [Nat.min_eq_left (Nat.le_of_lt ho)]]
 rw [show o + 1 + r.length = o + (r.length + 1) by omega]
 simp
theorem own_over {B : Nat} {e : TypeId} {g n cap : Nat} : ∀ (vs : List Value) (o : Nat) (w : World) (xs : List Value), w.ownsRow B e 1 (.slice (some ⟨g, 0, none⟩) n cap) n xs → o + vs.length ≤ n → (w.setCells g o vs).ownsRow B e 1 (.slice (some ⟨g, 0, none⟩) n cap) n (overL xs o vs)
 | [], o, w, xs, h, _ => by
   have : overL xs o [] = xs := by unfold overL; simp
   rw [this]
   exact h
 | v :: r, o, w, xs, h, hl => by
   have hx : xs.length = n := by rw [h.1, Nat.mul_one]
   rw [← overL_set (by rw [hx]; exact hl)]
   exact own_over r (o + 1) _ _ (h.stored o v).1 (by simp at hl; omega)
theorem own_room {w : World} {B : Nat} {e : TypeId} {g n cap : Nat} {xs : List Value} (h : w.ownsRow B e 1 (.slice (some ⟨g, 0, none⟩) n cap) n xs) (hc : n + 1 ≤ cap) : ∃ u, w.ownsRow B e 1 (.slice (some ⟨g, 0, none⟩) (n + 1) cap) (n + 1) (xs ++ [u]) := by
 obtain ⟨h1, ⟨h2, _⟩ | ⟨g', cap', cur, h', hb, hg, hnc, hcm, hcs, htake⟩⟩ := h
 ·simp at h2
 ·simp only [Value.slice.injEq, Option.some.injEq, Addr.mk.injEq, and_true, true_and] at h'
  obtain ⟨rfl, rfl⟩ := h'
  have hs : n < cur.toList.length := by simp [hcs]; omega
  refine ⟨cur.toList[n], by simp [h1], .inr ⟨g, cap, cur, rfl, hb, hg, hc, hcm, hcs, ?_⟩⟩
  rw [Nat.mul_one] at htake ⊢
  rw [List.take_add_one, htake, List.getElem?_eq_getElem hs]
  rfl
theorem oth_setCells {S : Nat → Prop} {w : World} (g : Nat) (hg : S g) : ∀ (vs : List Value) (o : Nat) (w1 : World), Oth S w w1 → Oth S w (w1.setCells g o vs)
 | [], _, _, h => h
 | v :: r, o, w1, h => oth_setCells g hg r (o + 1) _ ⟨h.os, h.output, by rw [World.size_setCell]; exact h.size, fun k hk hn => by
    rw [Below.heap_setCell w1 ⟨g, o, none⟩ v k (fun e => hn (by rw [show k = g from e]; exact hg))]
    exact h.block k hk hn⟩

def Ins (w : World) (v : Value) (R : List Int) (v' : Value) (w' : World) : Prop := w'.ownsRow 0 36 1 v' R.length (R.flatMap kv) ∧ Oth (fun k => v.ownBlock = some k) w w' ∧ ∀ k, v'.ownBlock = some k → v.ownBlock = some k ∨ w.heap.size ≤ k
theorem zc_size (n : Nat) : (Builtin.zeroCells (Value.int .u32 0).cells n).size = n := by simp [Builtin.zeroCells, Value.cells]
theorem oth_drewed {S : Nat → Prop} {w w1 : World} (h : Oth S w w1) : Oth S w w1.drew := ⟨h.os, h.output, h.size, h.block⟩
theorem oth_alloc {S : Nat → Prop} {w w1 : World} (h : Oth S w w1) (o : Obj) : Oth S w (w1.alloc o) := ⟨h.os, h.output, by rw [World.size_alloc]; exact Nat.le_succ_of_le h.size, fun k hk hn => (Below.heap_alloc _ _ k (Nat.lt_of_lt_of_le hk h.size)).trans (h.block k hk hn)⟩
theorem oth_refl (S : Nat → Prop) (w : World) : Oth S w w := ⟨rfl, rfl, Nat.le_refl _, fun _ _ _ => rfl⟩
abbrev InsC (w : World) (v : Value) (K : List Int) (i : Nat) (key : Int) : Prop := Calls Tryz.prog 141 #[v, .int .i64 i, .slice (some ⟨w.heap.size, 0, none⟩) 1 1] (w.alloc (.cells #[.int .u32 key] 36)) fun e w' => ∃ v', e = .returned v' ∧ Ins w v (K.take i ++ key :: K.drop i) v' w'
theorem cap_ok {W : World} {n c : Nat} (hn : n ≤ 1000001) : n ≤ grownCap W n c 36 ∧ grownCap W n c 36 ≤ maxLen := ⟨grownCap_ge _ _ _ _, grownCap_le_maxLen _ _ _ _ (by unfold maxLen; omega)⟩
theorem kins_end (K : List Int) (key : Int) (v : Value) (w : World) (hl : K.length ≤ 1000000) (h : w.ownsRow 0 36 1 v K.length (K.flatMap kv)) : InsC w v K K.length key := by
 obtain ⟨i0, hi0, hz0, hzs, hzb⟩ := info_parts info_kk
 obtain ⟨W, hW⟩ : ∃ W, W = w.alloc (.cells #[.int .u32 key] 36) := ⟨_, rfl⟩
 have hown : W.ownsRow 0 36 1 v K.length (K.flatMap kv) := by rw [hW]; exact h.alloc _
 have hnews : ∀ (j : Nat) (u : Value), [Value.int .u32 key][j]? = some u → W.cell? ((⟨w.heap.size, 0, none⟩ : Addr).add j) = some u := fun j u hu => by
  rw [hW, add_off, World.cell?_alloc_at _ _ _ _ rfl]
  simpa using hu
 have hoth : Oth (fun k => v.ownBlock = some k) w W := by rw [hW]; exact oth_alloc (oth_refl _ _) _
 obtain ⟨v1, w1, hrun, r1, r2, _⟩ := run_append_own (P := Tryz.prog) W 0 144 144 36 i0 (.int .u32 0) 1 4 Tryz.underlying144 hi0 hz0 hzs hzb rfl (by decide) v K.length (K.flatMap kv) hown ⟨w.heap.size, 0, none⟩ 1 1 [.int .u32 key] rfl hnews (fun u hu => by simp at hu; subst hu; rfl) (by unfold maxLen; omega) (by omega) (Nat.zero_le _)
 have fr := append_where (P := Tryz.prog) W 0 144 144 36 i0 (.int .u32 0) 1 4 Tryz.underlying144 hi0 hz0 hzs hzb v K.length (K.flatMap kv) hown ⟨w.heap.size, 0, none⟩ 1 1 (by decide) [.int .u32 key] rfl hnews (fun u hu => by simp at hu; subst hu; rfl) (by unfold maxLen; omega) (by omega) v1 w1 hrun
 have R : Ins w v (K.take K.length ++ key :: K.drop K.length) v1 w1 := by
  rw [show K.take K.length ++ key :: K.drop K.length = K ++ [key] by simp]
  refine ⟨by simpa [kv] using r1, ⟨r2.os.trans hoth.os, r2.output.trans hoth.output, Nat.le_trans hoth.size r2.size, fun k hk hn => (r2.block k (Nat.lt_of_lt_of_le hk hoth.size) (fun e => hn e.symm)).trans (hoth.block k hk hn)⟩, fun k hk => ?_⟩
  rcases fr k hk with q | q
  ·exact .inl q
  ·exact .inr (Nat.le_trans hoth.size q)
 unfold InsC
 rw [← hW]
 obtain ⟨base, n, cap, hv, hn⟩ : ∃ base n cap, v = .slice base n cap ∧ K.length = n := by
  rcases h.2 with ⟨rfl, q⟩ | ⟨g, cap, cur, rfl, _⟩
  ·exact ⟨none, 0, 0, rfl, q⟩
  ·exact ⟨_, _, cap, rfl, rfl⟩
 have hnil : base = none → n = 0 := fun e => by
  rcases h.2 with ⟨_, q⟩ | ⟨g, cap', cur, q, _⟩
  ·rw [← hn]; exact q
  ·rw [hv, e] at q; simp at q
 clear hnews hoth r1 r2 fr hown h hW
 have HR := Lib.hid R
 clear R
 generalize K.take K.length ++ key :: K.drop K.length = R at *
 subst hv
 rw [hn] at hl ⊢
 clear hn
 cases base with
 | none =>
   have h0 := hnil rfl
   subst h0
   go_enter Tryz.func141, Tryz.ntmps141
   go_wp2_with (at_builtin; refine Lib.wpList_append_run _ rfl _ _ _ _ rfl _ _ rfl rfl _ _ hrun ?_)
   go_ret
   exact ⟨_, rfl, HR.out⟩
 | some a =>
   obtain ⟨ab, ao, asp⟩ := a
   go_enter Tryz.func141, Tryz.ntmps141
   go_wp2_with (at_builtin; refine Lib.wpList_append_run _ rfl _ _ _ _ rfl _ _ rfl rfl _ _ hrun ?_)
   all_goals (go_ret; exact ⟨_, rfl, HR.out⟩)
theorem kins_shift (K : List Int) (key : Int) (b n c i : Nat) (w : World) (hl : n ≤ 1000000) (hn : K.length = n) (hi : i < n) (hroom : n + 1 ≤ c) (_hc63 : c ≤ maxLen) (h : w.ownsRow 0 36 1 (.slice (some ⟨b, 0, none⟩) n c) n (K.flatMap kv)) : InsC w (.slice (some ⟨b, 0, none⟩) n c) K i key := by
 obtain ⟨i0, hi0, hz0, hzs, hzb⟩ := info_parts info_kk
 have hsi : (Tryz.prog.info? 36).map (·.size) = some 1 := by rw [hi0]; simp [hzs]
 obtain ⟨W, hW⟩ : ∃ W, W = w.alloc (.cells #[.int .u32 key] 36) := ⟨_, rfl⟩
 have hown : W.ownsRow 0 36 1 (.slice (some ⟨b, 0, none⟩) n c) n (K.flatMap kv) := by rw [hW]; exact h.alloc _
 have hoth : Oth (fun k => (Value.slice (some ⟨b, 0, none⟩) n c).ownBlock = some k) w W := by rw [hW]; exact oth_alloc (oth_refl _ _) _
 have hbw : b < w.heap.size := (h.lt b rfl).2
 have hvb : w.heap.size ≠ b := by omega
 have hk0 : W.cell? ⟨w.heap.size, 0, none⟩ = some (.int .u32 key) := by rw [hW, World.cell?_alloc_at _ _ _ _ rfl]; rfl
 have hgv : W.heap[w.heap.size]? = some (.cells #[.int .u32 key] 36 (0, 0)) := by rw [hW]; exact heap_alloc_new _ _
 obtain ⟨cur, hg, hcs⟩ : ∃ cur, W.heap[b]? = some (.cells cur 36 (0, 0)) ∧ cur.size = c := by
  rcases hown.2 with ⟨q, _⟩ | ⟨g, cap, cur, q, _, hg, _, _, hcs, _⟩
  ·simp at q
  ·simp only [Value.slice.injEq, Option.some.injEq, Addr.mk.injEq, and_true, true_and] at q
   obtain ⟨rfl, rfl⟩ := q
   exact ⟨cur, hg, by rw [hcs, Nat.mul_one]⟩
 have hov : ∀ lb cb, (callFunc 171 #[.slice (some ⟨w.heap.size, 0, none⟩) 1 1, .slice (some ⟨b, i + 1, none⟩) lb cb]).run Tryz.prog W = .ok (.value (.bool false)) W := fun lb cb => by
  have e := Lib.run_overlaps_apart (P := Tryz.prog) W 144 4 36 Tryz.underlying144 1 Tryz.sizeOf36 ⟨w.heap.size, 0, none⟩ ⟨b, i + 1, none⟩ 1 1 lb cb hvb 36 36 1 c
   (by simp [World.shape?, hgv]) (by simp [World.shape?, hg, hcs]) (by omega) (by rw [hW]; exact World.frozen?_alloc_at _ _ _ _ rfl) (by rw [hW]; exact World.frozen?_alloc_at _ _ _ _ rfl)
  rw [run_callFunc_extern Tryz.func171 (by kernel_rfl) (by kernel_rfl) (by kernel_rfl) (e := Extern.SlicesOverlaps.overlaps #[144, 144] #[4]) (by kernel_rfl), e]
  rfl
 have hcl : (K.flatMap kv).length = n := by rw [kvs_len, hn]
 have hsp : ∀ j, j < n + 1 → (W.cell? ⟨b, j, none⟩).isSome = true := fun j hj => by
  simp only [World.cell?, hg]
  rw [Array.getElem?_eq_getElem (by omega)]
  rfl
 have hfz : ∀ j, W.frozen? ⟨b, j, none⟩ = false := fun j => hown.frozenAt j
 have hcs2 : ∀ j u, (K.flatMap kv)[j]? = some u → W.cell? ⟨b, j, none⟩ = some u := fun j u hu => by
  have := hown.cells (g := b) rfl j u hu
  rw [add_off, Nat.zero_add] at this
  exact this
 have hdl : ((K.flatMap kv).drop i).length = n - i := by rw [List.length_drop, hcl]
 have hcp1 : ∀ ty dc sc, (Builtin.copy_ #[144, 144] ty #[.slice (some ⟨b, i + 1, none⟩) (n - i) dc, .slice (some ⟨b, i, none⟩) (n + 1 - i) sc]).run Tryz.prog W.drew = .ok (goInt ((K.flatMap kv).drop i).length) (W.drew.setCells b (i + 1) ((K.flatMap kv).drop i)) := fun ty dc sc =>
  run_copy_cells W.drew _ _ ty 36 b (i + 1) (n - i) dc ⟨b, i, none⟩ (n + 1 - i) sc ((K.flatMap kv).drop i) Tryz.underlying144 hsi (by rw [hdl]; simp only [Nat.min_def]; split <;> omega)
   (fun j v hj => by rw [add_off]; exact hcs2 (i + j) v (by rwa [List.getElem?_drop] at hj))
   (fun j hj => hsp _ (by omega)) (fun j hj => hfz _) (fun v hv => kvs_one K v (List.mem_of_mem_drop hv))
 obtain ⟨W1, hW1⟩ : ∃ W1, W1 = W.drew.setCells b (i + 1) ((K.flatMap kv).drop i) := ⟨_, rfl⟩
 obtain ⟨u, hu⟩ := own_room hown hroom
 have hown1 := own_over ((K.flatMap kv).drop i) (i + 1) W.drew _ (own_drewN (m := 1) hu) (by omega)
 rw [← hW1] at hown1 hcp1
 have hoth1 : Oth (fun k => (Value.slice (some ⟨b, 0, none⟩) n c).ownBlock = some k) w W1 := by rw [hW1]; exact oth_setCells (S := fun k => (Value.slice (some ⟨b, 0, none⟩) n c).ownBlock = some k) b rfl _ _ _ (oth_drewed hoth)
 have hsp1 : (W1.cell? ⟨b, i, none⟩).isSome = true := by
  rw [hW1, World.cell?_setCells_out b _ _ _ _ (fun _ _ => .inl (by simp))]
  exact hsp i (by omega)
 have hk1 : W1.cell? ⟨w.heap.size, 0, none⟩ = some (.int .u32 key) := by
  rw [hW1, World.cell?_setCells_out b _ _ _ _ (fun h _ => absurd h hvb)]
  exact hk0
 have hcp2 : ∀ ty dc, (Builtin.copy_ #[144, 144] ty #[.slice (some ⟨b, i, none⟩) (n + 1 - i) dc, .slice (some ⟨w.heap.size, 0, none⟩) 1 1]).run Tryz.prog W1 = .ok (goInt 1) (W1.setCells b i [.int .u32 key]) := fun ty dc =>
  run_copy_cells W1 _ _ ty 36 b i (n + 1 - i) dc ⟨w.heap.size, 0, none⟩ 1 1 [.int .u32 key] Tryz.underlying144 hsi (by simp only [List.length_singleton, Nat.min_def]; split <;> omega)
   (fun j v hj => by
     cases j with
     | zero => simp at hj; subst hj; exact hk1
     | succ j => simp at hj)
   (fun j hj => by simp at hj; subst hj; exact hsp1) (fun j hj => hown1.frozenAt _) (fun v hv => by simp at hv; subst hv; rfl)
 have R : Ins w (.slice (some ⟨b, 0, none⟩) n c) (K.take i ++ key :: K.drop i) (.slice (some ⟨b, 0, none⟩) (n + 1) c) (W1.setCells b i [.int .u32 key]) := by
  have hlen : (K.take i ++ key :: K.drop i).length = n + 1 := by simp [hn]; omega
  refine ⟨?_, oth_setCells (S := fun k => (Value.slice (some ⟨b, 0, none⟩) n c).ownBlock = some k) b rfl _ _ _ hoth1, fun k hk => .inl hk⟩
  have := own_over [Value.int .u32 key] i W1 _ hown1 (by simp; omega)
  rw [hlen]
  have e : overL (overL (K.flatMap kv ++ [u]) (i + 1) ((K.flatMap kv).drop i)) i [Value.int .u32 key] = (K.take i ++ key :: K.drop i).flatMap kv := by
   unfold overL
   rw [List.flatMap_append, List.flatMap_cons, ← kvs_take, ← kvs_drop]
   rw [show (K.flatMap kv ++ [u]).drop (i + 1 + ((K.flatMap kv).drop i).length) = [] from List.drop_eq_nil_of_le (by rw [List.length_append, hcl, hdl, List.length_singleton]; omega), List.append_nil]
   have t1 : (K.flatMap kv ++ [u]).take (i + 1) = (K.flatMap kv).take i ++ [(K.flatMap kv)[i]'(by omega)] := by
    rw [List.take_append_of_le_length (by omega), List.take_add_one, List.getElem?_eq_getElem (by omega)]
    rfl
   have l1 : ((K.flatMap kv).take i ++ [(K.flatMap kv)[i]'(by omega)]).length = i + 1 := by simp [hcl]; omega
   have l2 : ((K.flatMap kv).take i).length = i := by rw [List.length_take]; omega
   rw [t1, List.length_singleton, List.drop_left' l1, List.append_assoc ((K.flatMap kv).take i), List.take_left' l2]
   simp [kv]
  rw [e] at this
  exact this
 have R' : ∃ v1 w1, v1 = Value.slice (some ⟨b, 0, none⟩) (n + 1) c ∧ w1 = W1.setCells b i [.int .u32 key] ∧ Ins w (.slice (some ⟨b, 0, none⟩) n c) (K.take i ++ key :: K.drop i) v1 w1 := ⟨_, _, rfl, rfl, R⟩
 obtain ⟨v1, w1, hv1, hw1, R⟩ := R'
 rw [← hw1] at hcp2
 unfold InsC
 rw [← hW]
 have HR := Lib.hid R
 clear R hW hown hoth hk0 hg hgv hsp hfz hcs2 hown1 hoth1 hsp1 hk1 hu hw1 hW1
 generalize K.take i ++ key :: K.drop i = R at *
 have mixed : Tryz.prog.follows .mixedOrders = true := by kernel_rfl
 unfold maxLen at _hc63
 have hz2 : ¬ ((i : Int) = (n : Int)) := by omega
 have hwr : IntKind.i64.wrap ((i : Int) + 1) = (i : Int) + 1 := by rw [IntKind.wrap_i64]; omega
 have hb1 : (0 : Int) ≤ (i : Int) + 1 := by omega
 have hin : i ≤ n := by omega
 have htn : ((i : Int) + 1).toNat = i + 1 := by omega
 have hb2 : ¬ (c = i + 1) := by omega
 have hb3 : (i : Int) ≤ (n : Int) + 1 := by omega
 have hb4 : ¬ (c = i) := by omega
 go_enter Tryz.func141, Tryz.ntmps141
 go_wp2_with (simp only [hov])
 go_region_law_o (refine step_copy_runI rfl _ _ 144 144 rfl _ _ (by simp [Act.eval, Act.put]) (by simp [Act.eval, Act.put]) (hcp1 _ _ _) ?_)
 go_wp2_with (at_builtin; refine wpList_copy_runI _ rfl _ _ 144 144 rfl _ _ rfl rfl (hcp2 _ _) ?_)
 go_ret
 subst hv1
 exact ⟨_, rfl, HR.out⟩
theorem kins_grow (K : List Int) (key : Int) (b n c i : Nat) (w : World) (hl : n ≤ 1000000) (hn : K.length = n) (hi : i < n) (hnc : n ≤ c) (hroom : c < n + 1) (h : w.ownsRow 0 36 1 (.slice (some ⟨b, 0, none⟩) n c) n (K.flatMap kv)) : InsC w (.slice (some ⟨b, 0, none⟩) n c) K i key := by
 obtain ⟨i0, hi0, hz0, hzs, hzb⟩ := info_parts info_kk
 have hsi : (Tryz.prog.info? 36).map (·.size) = some 1 := by rw [hi0]; simp [hzs]
 obtain ⟨W, hW⟩ : ∃ W, W = w.alloc (.cells #[.int .u32 key] 36) := ⟨_, rfl⟩
 have hown : W.ownsRow 0 36 1 (.slice (some ⟨b, 0, none⟩) n c) n (K.flatMap kv) := by rw [hW]; exact h.alloc _
 have hoth : Oth (fun k => (Value.slice (some ⟨b, 0, none⟩) n c).ownBlock = some k) w W := by rw [hW]; exact oth_alloc (oth_refl _ _) _
 have hsz : W.heap.size = w.heap.size + 1 := by rw [hW]; simp
 have hbw : b < w.heap.size := (h.lt b rfl).2
 have hk0 : W.cell? ⟨w.heap.size, 0, none⟩ = some (.int .u32 key) := by rw [hW, World.cell?_alloc_at _ _ _ _ rfl]; rfl
 have hcl : (K.flatMap kv).length = n := by rw [kvs_len, hn]
 have hdl : ((K.flatMap kv).drop i).length = n - i := by rw [List.length_drop, hcl]
 have hcs2 : ∀ j u, (K.flatMap kv)[j]? = some u → W.cell? ⟨b, j, none⟩ = some u := fun j u hu => by
  have := hown.cells (g := b) rfl j u hu
  rw [add_off, Nat.zero_add] at this
  exact this
 have hold : (Builtin.firstCells i0.size i (.slice (some ⟨b, 0, none⟩) i c)).run Tryz.prog W.drew = .ok ((K.flatMap kv).take i).toArray W.drew := by
  rw [hzs]
  exact run_firstCells_some W.drew 1 i ⟨b, 0, none⟩ i c ((K.flatMap kv).take i) (by rw [List.length_take]; omega) (fun j v hj => by
   rw [add_off, Nat.zero_add]
   rw [List.getElem?_take] at hj
   split at hj
   ·exact hcs2 j v hj
   ·cases hj)
 have hik : i + (n + 1 - i) = n + 1 := by omega
 obtain ⟨g1, g2⟩ := cap_ok (W := W) (n := n + 1) (c := c) (by omega)
 obtain ⟨G, hG⟩ : ∃ G, G = grownCap W (n + 1) c 36 := ⟨_, rfl⟩
 rw [← hG] at g1 g2
 obtain ⟨ROW, hROW⟩ : ∃ ROW : Array Value, ROW = ((K.flatMap kv).take i).toArray ++ Builtin.zeroCells (Value.int .u32 0).cells (n + 1 - i) ++ Builtin.zeroCells (Value.int .u32 0).cells (G - (n + 1)) := ⟨_, rfl⟩
 have hrs : ROW.size = G := by
  rw [hROW, Array.size_append, Array.size_append, zc_size, zc_size, List.size_toArray, List.length_take]
  omega
 obtain ⟨W1, hW1⟩ : ∃ W1, W1 = W.drew.alloc (.cells ROW 36) := ⟨_, rfl⟩
 have hrz : ∀ ty, (Builtin.append_ #[144, 3] ty #[.slice (some ⟨b, 0, none⟩) i c, .int .i64 ((n : Int) + 1 - (i : Int))]).run Tryz.prog W = .ok (.slice (some ⟨W.heap.size, 0, none⟩) (n + 1) G) W1 := fun ty => by
  have e := Lib.run_append_grow_zeros (P := Tryz.prog) W 144 3 ty 36 i0 _ .i64 .i64 Tryz.underlying144 Tryz.underlying3 hi0 hz0 (some ⟨b, 0, none⟩) i c ((K.flatMap kv).take i) hold (n + 1 - i) (by omega) (by omega) (by omega) (by omega) (by rw [hzb]; omega) (by rw [hzb, hik]; exact growslice_fits hroom (by omega))
  rw [hik, ← hG, ← hROW, ← hW1] at e
  rw [show (n : Int) + 1 - (i : Int) = ((n + 1 - i : Nat) : Int) by omega]
  exact e
 have hg1 : W1.heap[W.heap.size]? = some (.cells ROW 36 (0, 0)) := by rw [hW1]; exact heap_alloc_new W.drew _
 have own1 : W1.ownsRow 0 36 1 (.slice (some ⟨W.heap.size, 0, none⟩) (n + 1) G) (n + 1) (ROW.toList.take (n + 1)) := ⟨by simp [hrs]; omega, .inr ⟨_, G, ROW, rfl, Nat.zero_le _, hg1, g1, g2, by rw [hrs, Nat.mul_one], by rw [Nat.mul_one]⟩⟩
 have oth1 : Oth (fun k => (Value.slice (some ⟨b, 0, none⟩) n c).ownBlock = some k) w W1 := by rw [hW1]; exact oth_alloc (oth_drewed hoth) _
 have hk1 : W1.cell? ⟨w.heap.size, 0, none⟩ = some (.int .u32 key) := by rw [hW1, World.cell?_alloc_past _ _ _ (by show w.heap.size < W.heap.size; omega)]; exact hk0
 have hcs3 : ∀ j u, (K.flatMap kv)[j]? = some u → W1.cell? ⟨b, j, none⟩ = some u := fun j u hu => by
  rw [hW1, World.cell?_alloc_past _ _ _ (by show b < W.heap.size; omega)]
  exact hcs2 j u hu
 have some1 : ∀ j, j < n + 1 → (W1.cell? ⟨W.heap.size, j, none⟩).isSome = true := fun j hj => by
  simp only [World.cell?, hg1]
  rw [Array.getElem?_eq_getElem (by omega)]
  rfl
 have hcpA : ∀ ty dc, (Builtin.copy_ #[144, 144] ty #[.slice (some ⟨W.heap.size, i, none⟩) (n + 1 - i) dc, .slice (some ⟨w.heap.size, 0, none⟩) 1 1]).run Tryz.prog W1 = .ok (goInt 1) (W1.setCells W.heap.size i [.int .u32 key]) := fun ty dc =>
  run_copy_cells W1 _ _ ty 36 W.heap.size i (n + 1 - i) dc ⟨w.heap.size, 0, none⟩ 1 1 [.int .u32 key] Tryz.underlying144 hsi (by simp only [List.length_singleton, Nat.min_def]; split <;> omega)
   (fun j v hj => by
     cases j with
     | zero => simp at hj; subst hj; exact hk1
     | succ j => simp at hj)
   (fun j hj => by simp at hj; subst hj; exact some1 _ (by omega)) (fun j hj => own1.frozenAt _) (fun v hv => by simp at hv; subst hv; rfl)
 obtain ⟨W2, hW2⟩ : ∃ W2, W2 = W1.setCells W.heap.size i [.int .u32 key] := ⟨_, rfl⟩
 rw [← hW2] at hcpA
 have own2 := own_over [Value.int .u32 key] i W1 _ own1 (by simp; omega)
 rw [← hW2] at own2
 have hcs4 : ∀ j u, (K.flatMap kv)[j]? = some u → W2.cell? ⟨b, j, none⟩ = some u := fun j u hu => by
  rw [hW2, World.cell?_setCells_out _ _ _ _ _ (fun e _ => absurd e (show b ≠ W.heap.size by omega))]
  exact hcs3 j u hu
 have some2 : ∀ j, j < n + 1 → (W2.cell? ⟨W.heap.size, j, none⟩).isSome = true := fun j hj => by
  rw [hW2]
  exact isSome_setCells _ _ _ _ (fun t ht => by simp at ht; subst ht; exact some1 _ (by omega)) _ (some1 j hj)
 have hcpB : ∀ ty dc sc, (Builtin.copy_ #[144, 144] ty #[.slice (some ⟨W.heap.size, i + 1, none⟩) (n - i) dc, .slice (some ⟨b, i, none⟩) (n - i) sc]).run Tryz.prog W2.drew = .ok (goInt ((K.flatMap kv).drop i).length) (W2.drew.setCells W.heap.size (i + 1) ((K.flatMap kv).drop i)) := fun ty dc sc =>
  run_copy_cells W2.drew _ _ ty 36 W.heap.size (i + 1) (n - i) dc ⟨b, i, none⟩ (n - i) sc ((K.flatMap kv).drop i) Tryz.underlying144 hsi (by rw [hdl]; simp only [Nat.min_def]; split <;> omega)
   (fun j v hj => by rw [add_off]; exact hcs4 (i + j) v (by rwa [List.getElem?_drop] at hj))
   (fun j hj => some2 _ (by omega)) (fun j hj => own2.frozenAt _) (fun v hv => kvs_one K v (List.mem_of_mem_drop hv))
 have own3 := own_over ((K.flatMap kv).drop i) (i + 1) W2.drew _ (own_drewN (m := 1) own2) (by omega)
 have oth2 : Oth (fun k => (Value.slice (some ⟨b, 0, none⟩) n c).ownBlock = some k) w W2 := by
  rw [hW2]
  refine ⟨oth1.os, oth1.output, by rw [show W1.setCells W.heap.size i [Value.int .u32 key] = W1.setCell ⟨W.heap.size, i, none⟩ (.int .u32 key) from rfl, World.size_setCell]; exact oth1.size, fun k hk hq => ?_⟩
  rw [show W1.setCells W.heap.size i [Value.int .u32 key] = W1.setCell ⟨W.heap.size, i, none⟩ (.int .u32 key) from rfl, Below.heap_setCell _ _ _ _ (show k ≠ W.heap.size by omega)]
  exact oth1.block k hk hq
 have oth3 : Oth (fun k => (Value.slice (some ⟨b, 0, none⟩) n c).ownBlock = some k) w (W2.drew.setCells W.heap.size (i + 1) ((K.flatMap kv).drop i)) := by
  have q : Oth (fun k => (Value.slice (some ⟨b, 0, none⟩) n c).ownBlock = some k ∨ k = W.heap.size) w (W2.drew.setCells W.heap.size (i + 1) ((K.flatMap kv).drop i)) := oth_setCells _ (.inr rfl) _ _ _ ⟨oth2.os, oth2.output, oth2.size, fun k hk hq => oth2.block k hk (fun e => hq (.inl e))⟩
  exact ⟨q.os, q.output, q.size, fun k hk hq => q.block k hk (fun e => e.elim hq (fun e => by omega))⟩
 have R : Ins w (.slice (some ⟨b, 0, none⟩) n c) (K.take i ++ key :: K.drop i) (.slice (some ⟨W.heap.size, 0, none⟩) (n + 1) G) (W2.drew.setCells W.heap.size (i + 1) ((K.flatMap kv).drop i)) := by
  have hlen : (K.take i ++ key :: K.drop i).length = n + 1 := by simp [hn]; omega
  refine ⟨?_, oth3, fun k hk => .inr (by injection hk with hk; have e : W.heap.size = k := hk; omega)⟩
  rw [hlen]
  have l2 : ((K.flatMap kv).take i).length = i := by rw [List.length_take]; omega
  have tr : (ROW.toList.take (n + 1)).take i = (K.flatMap kv).take i := by
   rw [List.take_take, Nat.min_eq_left (by omega), hROW, Array.toList_append, Array.toList_append, List.append_assoc]
   exact List.take_left' l2
  have lr : (ROW.toList.take (n + 1)).length = n + 1 := by simp [hrs]; omega
  have e : overL (overL (ROW.toList.take (n + 1)) i [Value.int .u32 key]) (i + 1) ((K.flatMap kv).drop i) = (K.take i ++ key :: K.drop i).flatMap kv := by
   unfold overL
   rw [tr, List.flatMap_append, List.flatMap_cons, ← kvs_take, ← kvs_drop]
   have l3 : ((K.flatMap kv).take i ++ [Value.int .u32 key]).length = i + 1 := by simp [hcl]; omega
   rw [List.take_left' l3, show ((K.flatMap kv).take i ++ [Value.int .u32 key] ++ (ROW.toList.take (n + 1)).drop (i + [Value.int .u32 key].length)).drop (i + 1 + ((K.flatMap kv).drop i).length) = [] from List.drop_eq_nil_of_le (by rw [List.length_append, l3, List.length_drop, lr, hdl, List.length_singleton]; omega)]
   simp [kv]
  rw [e] at own3
  exact own3
 obtain ⟨w1, hw1⟩ : ∃ w1, w1 = W2.drew.setCells W.heap.size (i + 1) ((K.flatMap kv).drop i) := ⟨_, rfl⟩
 rw [← hw1] at hcpB R
 unfold InsC
 rw [← hW]
 have HR := Lib.hid R
 obtain ⟨N, hN⟩ : ∃ N, N = W.heap.size := ⟨_, rfl⟩
 rw [← hN] at hrz hcpA hcpB HR
 clear R hW hown hoth hk0 hsz hcs2 hold hROW hrs hW1 hg1 own1 oth1 hk1 hcs3 some1 hW2 own2 hcs4 some2 own3 oth2 oth3 hw1 hik hG hN hbw h
 generalize K.take i ++ key :: K.drop i = R at *
 have mixed : Tryz.prog.follows .mixedOrders = true := by kernel_rfl
 unfold maxLen at g2
 have hz2 : ¬ ((i : Int) = (n : Int)) := by omega
 have hz3 : (c : Int) < (n : Int) + 1 := by omega
 have hwr : IntKind.i64.wrap ((i : Int) + 1) = (i : Int) + 1 := by rw [IntKind.wrap_i64]; omega
 have hb1 : (0 : Int) ≤ (i : Int) + 1 := by omega
 have hin : i ≤ n := by omega
 have htn : ((i : Int) + 1).toNat = i + 1 := by omega
 have hGi : ¬ (G = i) := by omega
 have hGim : ¬ (G = i + 1) := by omega
 have hci : ¬ (c = i) := by omega
 have hb3 : (i : Int) ≤ (n : Int) := by omega
 go_enter Tryz.func141, Tryz.ntmps141
 go_wp2_with (first
  | (at_builtin; refine Lib.wpList_append_run _ rfl _ _ _ _ rfl _ _ rfl rfl _ _ (hrz _) ?_)
  | (at_builtin; refine wpList_copy_runI _ rfl _ _ 144 144 rfl _ _ rfl rfl (hcpA _ _) ?_))
 go_region_law_o (refine step_copy_runI rfl _ _ 144 144 rfl _ _ (by simp [Act.eval, Act.put]) (by simp [Act.eval, Act.put]) (hcpB _ _ _) ?_)
 go_wp2
 go_ret
 exact ⟨_, rfl, HR.out⟩
theorem kins (K : List Int) (key : Int) (i : Nat) (v : Value) (w : World) (hl : K.length ≤ 1000000) (hi : i ≤ K.length) (h : w.ownsRow 0 36 1 v K.length (K.flatMap kv)) : InsC w v K i key := by
 by_cases c : i = K.length
 ·subst c
  exact kins_end K key v w hl h
 ·rcases h.2 with ⟨_, q⟩ | ⟨g, cap, cur, rfl, _, _, h1, h2, _⟩
  ·omega
  ·by_cases r : K.length + 1 ≤ cap
   ·exact kins_shift K key g K.length cap i w hl rfl (by omega) r h2 h
   ·exact kins_grow K key g K.length cap i w hl rfl (by omega) h1 (by omega) h
theorem kwith (K : List Int) (key : Int) (v : Value) (w : World) (hl : K.length ≤ 1000000) (asc : SortS kless K) (h : w.ownsRow 0 36 1 v K.length (K.flatMap kv)) :
 Calls Tryz.prog 112 #[v, .int .u32 key] w fun e w' => ∃ v', e = .returned v' ∧ Ins w v (putS kless K key) v' w' := by
 have CI := Lib.hid (kins K key (lessN K key) v w hl (lessN_le K key) h)
 have hq := own_sq kv_len h
 obtain ⟨base, cap, rfl⟩ := hq.shape
 have CS := Lib.hid (ksearch base cap K key w hq hl asc)
 by_cases c : key ∈ K
 ·have R : Ins w (.slice base K.length cap) (putS kless K key) (.slice base K.length cap) w := by
   rw [putS_has asc c]
   exact ⟨h, oth_refl _ _, fun k hk => .inl hk⟩
  have HR := Lib.hid R
  rw [decide_eq_true c] at CS
  generalize putS kless K key = R at *
  generalize K.length = n at *
  clear h hq hl c R CI
  generalize lessN K key = t at *
  go_enter Tryz.func112, Tryz.ntmps112
  go_wp2_with ((with_reducible refine (CS.out).mono ?_); rintro e w' ⟨rfl, rfl⟩)
  go_ret
  exact ⟨_, rfl, HR.out⟩
 ·unfold InsC at CI
  rw [← putS_new asc c] at CI
  rw [decide_eq_false c] at CS
  generalize putS kless K key = R at *
  generalize K.length = n at *
  clear h hq hl c
  generalize lessN K key = t at *
  go_enter Tryz.func112, Tryz.ntmps112
  go_wp2_with (first
   | ((with_reducible refine (CS.out).mono ?_); rintro e w' ⟨rfl, rfl⟩)
   | ((with_reducible refine (CI.out).mono ?_); rintro e w2 ⟨v2, rfl, r2⟩; have R2 := Lib.hid r2; clear r2))
  go_ret
  exact ⟨_, rfl, R2.out⟩
structure GM (w : World) (g : Nat) (S : Nat → Prop) (n : Int) (vf : Nat → Value) (Kf : Nat → List Int) : Prop where
 c : ∀ j, j < 1024 → w.cell? ⟨g, j, none⟩ = some (vf j)
 cn : w.cell? ⟨g, 1024, none⟩ = some (.int .i64 n)
 fz : ∀ j, w.frozen? ⟨g, j, none⟩ = false
 own : ∀ j, j < 1024 → w.ownsRow 0 36 1 (vf j) (Kf j).length ((Kf j).flatMap kv)
 apart : ∀ i j, i < 1024 → j < 1024 → i ≠ j → ∀ k, (vf i).ownBlock = some k → (vf j).ownBlock ≠ some k
 off : ∀ j, j < 1024 → (vf j).ownBlock ≠ some g
 sg : S g
 sv : ∀ j, j < 1024 → ∀ k, (vf j).ownBlock = some k → S k
 only : ∀ k, S k → k = g ∨ ∃ j, j < 1024 ∧ (vf j).ownBlock = some k
 fac : Fac w
 nf : ¬ S 0
theorem GM.glt {w : World} {g : Nat} {S : Nat → Prop} {n : Int} {vf : Nat → Value} {Kf : Nat → List Int} (h : GM w g S n vf Kf) : g < w.heap.size := World.block_lt_of_cell? _ _ h.cn
theorem GM.lt {w : World} {g : Nat} {S : Nat → Prop} {n : Int} {vf : Nat → Value} {Kf : Nat → List Int} (h : GM w g S n vf Kf) : ∀ k, S k → k < w.heap.size := fun k hk => by
 rcases h.only k hk with rfl | ⟨j, hj, e⟩
 ·exact h.glt
 ·exact ((h.own j hj).lt k e).2
theorem own_block {w w' : World} {t : TypeId} {v : Value} {n : Nat} {xs : List Value} (h : w.ownsRow 0 t 1 v n xs) (hb : ∀ k, v.ownBlock = some k → w'.heap[k]? = w.heap[k]?) : w'.ownsRow 0 t 1 v n xs := by
 refine ⟨h.1, ?_⟩
 rcases h.2 with hn | ⟨g, cap, cur, rfl, hg, hgg, rest⟩
 ·exact .inl hn
 ·exact .inr ⟨g, cap, cur, rfl, hg, (hb g rfl).trans hgg, rest⟩
theorem GM.kept {w w' : World} {g : Nat} {S : Nat → Prop} {n : Int} {vf : Nat → Value} {Kf : Nat → List Int} (h : GM w g S n vf Kf) (hb : ∀ k, S k → w'.heap[k]? = w.heap[k]?) (F : Fac w') : GM w' g S n vf Kf where
 c j hj := (World.cell?_of_block (w := w) (hb g h.sg)).trans (h.c j hj)
 cn := (World.cell?_of_block (w := w) (hb g h.sg)).trans h.cn
 fz j := (World.frozen?_of_block (w := w) (hb g h.sg)).trans (h.fz j)
 own j hj := own_block (h.own j hj) fun k hk => hb k (h.sv j hj k hk)
 apart := h.apart
 off := h.off
 sg := h.sg
 sv := h.sv
 only := h.only
 fac := F
 nf := h.nf
theorem GM.kep {w w' : World} {g : Nat} {S : Nat → Prop} {n : Int} {vf : Nat → Value} {Kf : Nat → List Int} (h : GM w g S n vf Kf) (k : Kep w.heap.size w w') : GM w' g S n vf Kf := h.kept (fun j hj => k.block j (h.lt j hj)) (h.fac.kep k)
theorem Fac.oth {S : Nat → Prop} {w w' : World} (h : Fac w) (k : Oth S w w') (hn : ¬ S 0) : Fac w' := ⟨k.cell hn h.x, k.cell hn h.y⟩
theorem GM.count {w : World} {g : Nat} {S : Nat → Prop} {n : Int} {vf : Nat → Value} {Kf : Nat → List Int} (h : GM w g S n vf Kf) (m : Int) : GM (w.setCell ⟨g, 1024, none⟩ (.int .i64 m)) g S m vf Kf ∧ Oth S w (w.setCell ⟨g, 1024, none⟩ (.int .i64 m)) := by
 have o : Oth S w (w.setCell ⟨g, 1024, none⟩ (.int .i64 m)) := ⟨rfl, rfl, by simp, fun k hk hn => Below.heap_setCell w ⟨g, 1024, none⟩ _ k (fun e => hn (by rw [show k = g from e]; exact h.sg))⟩
 refine ⟨⟨fun j hj => ?_, ?_, fun j => ?_, fun j hj => own_block (h.own j hj) fun k hk => Below.heap_setCell w ⟨g, 1024, none⟩ _ k (fun e => h.off j hj (by rw [hk, show k = g from e])), h.apart, h.off, h.sg, h.sv, h.only, h.fac.oth o h.nf, h.nf⟩, o⟩
 ·rw [World.cell?_setCell_other (h := fun e => by injection e with _ e; omega)]
  exact h.c j hj
 ·rw [World.cell?_setCell_same' _ _ _ (by rw [h.cn]; rfl)]
 ·rw [World.frozen?_setCell]; exact h.fz j
def updF {α : Type} (f : Nat → α) (i : Nat) (x : α) : Nat → α := fun j => if j = i then x else f j
theorem updF_same {α : Type} (f : Nat → α) (i : Nat) (x : α) : updF f i x i = x := if_pos rfl
theorem updF_ne {α : Type} {f : Nat → α} {i j : Nat} {x : α} (h : j ≠ i) : updF f i x j = f j := if_neg h
theorem GM.stored {w w1 : World} {g : Nat} {S : Nat → Prop} {n : Int} {vf : Nat → Value} {Kf : Nat → List Int} (h : GM w g S n vf Kf) {i : Nat} (hi : i < 1024) {R : List Int} {v' : Value} (k : Ins w (vf i) R v' w1) :
 ∃ S', GM (w1.setCell ⟨g, i, none⟩ v') g S' n (updF vf i v') (updF Kf i R) ∧ More w S S' ∧ Oth S w (w1.setCell ⟨g, i, none⟩ v') := by
 obtain ⟨k1, k2, k3⟩ := k
 have hgi : ∀ q, (vf i).ownBlock = some q → q ≠ g := fun q e c => h.off i hi (by rw [e, c])
 have hlt : ∀ j, j < 1024 → ∀ q, (vf j).ownBlock = some q → q < w.heap.size := fun j hj q e => ((h.own j hj).lt q e).2
 have hg' : ∀ q, v'.ownBlock = some q → q ≠ g := fun q e c => by
  rcases k3 q e with e2 | e2
  ·exact hgi q e2 c
  ·have := h.glt; omega
 have o : Oth S w (w1.setCell ⟨g, i, none⟩ v') := ⟨k2.os, k2.output, by rw [World.size_setCell]; exact k2.size, fun q hq hn => by
  rw [Below.heap_setCell w1 ⟨g, i, none⟩ _ q (fun e => hn (by rw [show q = g from e]; exact h.sg))]
  exact k2.block q hq fun e => hn (h.sv i hi q e)⟩
 have bg : w1.heap[g]? = w.heap[g]? := k2.block g h.glt (fun e => hgi g e rfl)
 refine ⟨fun q => q = g ∨ ∃ j, j < 1024 ∧ (updF vf i v' j).ownBlock = some q, ⟨fun j hj => ?_, ?_, fun j => ?_, fun j hj => ?_, fun a b ha hb hab q e => ?_, fun j hj => ?_, .inl rfl, fun j hj q e => .inr ⟨j, hj, e⟩, fun q hq => hq, h.fac.oth o h.nf, ?_⟩, ?_, o⟩
 ·by_cases c : j = i
  ·subst c
   rw [World.cell?_setCell_same' _ _ _ (by rw [World.cell?_of_block (w := w) bg, h.c j hj]; rfl), updF_same]
  ·rw [World.cell?_setCell_other (h := fun e => by injection e with _ e; exact c e.symm), updF_ne c, World.cell?_of_block (w := w) bg]
   exact h.c j hj
 ·rw [World.cell?_setCell_other (h := fun e => by injection e with _ e; omega), World.cell?_of_block (w := w) bg]
  exact h.cn
 ·rw [World.frozen?_setCell, World.frozen?_of_block (w := w) bg]
  exact h.fz j
 ·by_cases c : j = i
  ·subst c
   rw [updF_same, updF_same]
   exact own_block k1 fun q e => Below.heap_setCell w1 ⟨g, j, none⟩ _ q (hg' q e)
  ·rw [updF_ne c, updF_ne c]
   refine own_block (h.own j hj) fun q e => ?_
   rw [Below.heap_setCell w1 ⟨g, i, none⟩ _ q (fun c => h.off j hj (by rw [e, show q = g from c]))]
   exact k2.block q (hlt j hj q e) (fun c' => h.apart j i hj hi c q e c')
 ·by_cases c : a = i
  ·subst c
   rw [updF_same] at e
   rw [updF_ne (fun e => hab e.symm)]
   intro e2
   rcases k3 q e with e3 | e3
   ·exact h.apart a b ha hb hab q e3 e2
   ·have := hlt b hb q e2; omega
  ·rw [updF_ne c] at e
   by_cases d : b = i
   ·subst d
    rw [updF_same]
    intro e2
    rcases k3 q e2 with e3 | e3
    ·exact h.apart a b ha hb hab q e e3
    ·have := hlt a ha q e; omega
   ·rw [updF_ne d]
    exact h.apart a b ha hb hab q e
 ·by_cases c : j = i
  ·subst c
   rw [updF_same]
   exact fun e => hg' g e rfl
  ·rw [updF_ne c]
   exact h.off j hj
 ·rintro (e | ⟨j, hj, e⟩)
  ·exact h.nf (by rw [e]; exact h.sg)
  ·by_cases c : j = i
   ·subst c
    rw [updF_same] at e
    rcases k3 _ e with e2 | e2
    ·exact h.nf (h.sv j hj _ e2)
    ·have := h.fac.lt; omega
   ·rw [updF_ne c] at e
    exact h.nf (h.sv j hj _ e)
 ·rintro q (rfl | ⟨j, hj, e⟩)
  ·exact .inl h.sg
  ·by_cases c : j = i
   ·subst c
    rw [updF_same] at e
    rcases k3 q e with e2 | e2
    ·exact .inl (h.sv j hj q e2)
    ·exact .inr e2
   ·rw [updF_ne c] at e
    exact .inl (h.sv j hj q e)
def kf (L : List Ent) (key : Int) (bs : List Int) (j : Nat) : List Int := if bs.contains (j : Int) = true then putS kless (atL L j) key else atL L j
theorem kf_nil (L : List Ent) (key : Int) : kf L key [] = fun (j : Nat) => atL L (j : Int) := by funext j; simp [kf]
theorem kf_asc (L : List Ent) (key : Int) (bs : List Int) (j : Nat) : SortS kless (kf L key bs j) := by
 unfold kf
 split
 ·exact putS_sort kless_strict (atL_spec L j).1
 ·exact (atL_spec L j).1
theorem kf_len {L : List Ent} (hl : L.length ≤ 100) (key : Int) (bs : List Int) (j : Nat) : (kf L key bs j).length ≤ 1000 := by
 have h := accA_len L (j : Int) L.length (Nat.le_refl _)
 rw [accA_all (Nat.le_refl _)] at h
 unfold kf
 split
 ·have := putS_len kless (atL L (j : Int)) key
  omega
 ·omega
theorem kf_step (L : List Ent) (key : Int) (bs : List Int) (i : Nat) : kf L key (bs ++ [(i : Int)]) = updF (kf L key bs) i (putS kless (kf L key bs i) key) := by
 funext j
 by_cases c : j = i
 ·subst c
  rw [updF_same]
  unfold kf
  rw [if_pos (by simp)]
  split
  ·rw [putS_has (putS_sort kless_strict (atL_spec L j).1) ((putS_mem kless_strict (atL_spec L j).1).2 (.inl rfl))]
  ·rfl
 ·rw [updF_ne c]
  have e : (bs ++ [(i : Int)]).contains (j : Int) = bs.contains (j : Int) := by
   rw [Bool.eq_iff_iff]
   simp
   exact fun e => absurd (Int.ofNat.inj e) c
  unfold kf
  rw [e]
theorem kf_all (L : List Ent) (e : Ent) : kf L e.k (bksE e) = fun (j : Nat) => atL (L ++ [e]) (j : Int) := by
 funext j
 unfold kf
 show _ = (L ++ [e]).foldl _ []
 rw [List.foldl_append]
 rfl
def GI (w : World) (g : Nat) (S : Nat → Prop) (L : List Ent) : Prop := ∃ vf, GM w g S L.length vf fun (j : Nat) => atL L (j : Int)
theorem bkt_in (x y : Int) : 0 ≤ bktN x y ∧ bktN x y < 1024 := by
 unfold bktN
 constructor
 ·omega
 ·omega
end Go.Proofs.YtaknmlohnifcdaaGreatDoor
