import Derived.Test.YtaknmlohnifcdaaGreatDoorMViewDiff
import Derived.Test.YtaknmlohnifcdaaGreatDoorJ14MViewMath
import Derived.Deep.QuietTactic
import Derived.BigQuiet
import Derived.Test.YtaknmlohnifcdaaGreatDoorJ05MStorePut
import Derived.Test.YtaknmlohnifcdaaGreatDoorJ02MSeq
import Derived.Laws.MakeOwn
import Derived.Deep.DeepCutAuto
import Derived.Shelf.SlicesE.Clone
import Derived.Test.YtaknmlohnifcdaaGreatDoorJ06MBodyFun
import Derived.Test.YtaknmlohnifcdaaGreatDoorJ08MGridCon
set_option maxHeartbeats 1000000
set_option maxRecDepth 100000
namespace Go.Proofs.YtaknmlohnifcdaaGreatDoor
open Go.RowKit Go.Lib
def Mine (w : World) (B : Nat) (v : Value) (L : List Bd) : Prop := Lst w v L ∧ ∀ g, v.ownBlock = some g → B ≤ g ∧ g < w.heap.size ∧ ∀ j, w.frozen? ⟨g, j, none⟩ = false
theorem Kep.next {a b c : World} (h : Kep a.heap.size a b) (k : Kep b.heap.size b c) : Kep a.heap.size a c := h.trans (k.mono h.size)
theorem Kep.made (w : World) (o : Obj) : Kep w.heap.size w (w.alloc o) := Kep.alloc (Kep.refl _ _) (Nat.le_refl _) o
abbrev Fit (L : List Bd) : Prop := ∀ x ∈ L, Fits x
abbrev VFind : Prop := ∀ v L key w, Lst w v L → Fit L → L.length ≤ 1000000 → Asc L → (Lit.int .u32 key).wf = true → Calls Tryz.prog 61 #[v, .int .u32 key] w fun e w' => e = .returned (.tuple #[.int .i64 (lessK L key), .bool (look L key).isSome]) ∧ Kep w.heap.size w w'
theorem lst_new (w : World) (L : List Bd) (t : TypeId) (cap : Nat) : Lst (w.alloc (.cells (flat L).toArray t)) (.slice (some ⟨w.heap.size, 0, none⟩) L.length cap) L := by
 refine .inr ⟨w.heap.size, 0, cap, rfl, fun k b hb i hi => ?_⟩
 rw [World.cell?_alloc_at _ _ _ _ rfl, ← flat_get L k b hb i hi]
 simp
theorem klst_new (w : World) (x : Int) (t : TypeId) : KLst (w.alloc (.cells #[.int .u32 x] t)) (.slice (some ⟨w.heap.size, 0, none⟩) 1 1) [x] := by
 refine .inr ⟨w.heap.size, 0, 1, rfl, fun k y hy => ?_⟩
 rw [World.cell?_alloc_at _ _ _ _ rfl]
 rcases k with _ | k
 ·simp at hy; simp [hy]
 ·simp at hy
theorem CLst.shape {w : World} {v : Value} {c : Ch} (h : CLst w v c) : ∃ b0 s0 b1 s1 b2 s2, v = .agg #[.slice b0 c.add.length s0, .slice b1 c.rem.length s1, .slice b2 c.chg.length s2] := by
 obtain ⟨v0, v1, v2, rfl, h0, h1, h2⟩ := h
 obtain ⟨b0, s0, rfl⟩ := h0.shape
 obtain ⟨b1, s1, rfl⟩ := h1.shape
 obtain ⟨b2, s2, rfl⟩ := h2.shape
 exact ⟨b0, s0, b1, s1, b2, s2, rfl⟩
theorem once_iff : ∀ {l : List Bd}, Once l ↔ (l.map (·.k)).Nodup
 | [] => by simp [Once]
 | x :: l => by
   simp only [Once, List.map_cons, List.nodup_cons, List.mem_map, not_exists, not_and]
   rw [once_iff]
theorem once_perm {l m : List Bd} (h : l.Perm m) : Once l ↔ Once m := by
 rw [once_iff, once_iff]
 exact (h.map _).nodup_iff
theorem asc_of_le : ∀ {l : List Bd}, l.Pairwise (fun x y => x.k ≤ y.k) → Once l → Asc l
 | [], _, _ => trivial
 | x :: l, h, ⟨h1, h2⟩ => by
   obtain ⟨a, b⟩ := List.pairwise_cons.1 h
   exact ⟨fun y hy => by have := a y hy; have := h1 y hy; omega, asc_of_le b h2⟩
theorem fold_once : ∀ (l m : List Bd), Asc m → (∀ x ∈ l, chkB x = 0) → Once l → (∀ x ∈ l, look m x.k = none) → m.length + l.length ≤ 4096 → (l.foldl addL m).length = m.length + l.length
 | [], _, _, _, _, _, _ => by simp
 | x :: l, m, hm, hv, ⟨h1, h2⟩, hn, hl => by
   simp only [List.length_cons] at hl
   have e : addL m x = put m x false := by
    unfold addL
    rw [if_neg (by simp [hv x (by simp)]), if_neg (by simp [hn x (by simp)]), if_neg (by omega)]
   have pl := (put_len hm x).1 (hn x (by simp))
   have := fold_once l (put m x false) (put_asc hm x false) (fun y hy => hv y (by simp [hy])) h2 (fun y hy => by
    rw [look_put hm, if_neg (fun q => h1 y hy q.symm)]; exact hn y (by simp [hy])) (by omega)
   rw [List.foldl_cons, e, this, pl, List.length_cons]
   omega
theorem fold_le : ∀ (l m : List Bd), Asc m → (l.foldl addL m).length ≤ m.length + l.length
 | [], _, _ => by simp
 | x :: l, m, hm => by
   have a := addL_asc hm x
   have := fold_le l (addL m x) a.1
   simp only [List.foldl_cons, List.length_cons]
   omega
theorem fold_is_once : ∀ (l m : List Bd), Asc m → (l.foldl addL m).length = m.length + l.length → Once l ∧ ∀ x ∈ l, look m x.k = none
 | [], _, _, _ => ⟨trivial, fun _ h => by cases h⟩
 | x :: l, m, hm, hl => by
   have a := addL_asc hm x
   have c := fold_le l (addL m x) a.1
   simp only [List.foldl_cons, List.length_cons] at hl
   have e : (addL m x).length = m.length + 1 := by omega
   have p : addL m x = put m x false ∧ look m x.k = none := by
    unfold addL at e ⊢
    by_cases c1 : chkB x = 0
    ·rw [if_neg (by simp [c1])] at e ⊢
     by_cases c2 : look m x.k = none
     ·rw [if_neg (by simp [c2])] at e ⊢
      by_cases c3 : 4096 ≤ m.length
      ·rw [if_pos c3] at e; omega
      ·rw [if_neg c3]; exact ⟨rfl, c2⟩
     ·rw [if_pos c2] at e; omega
    ·rw [if_pos c1] at e; omega
   have ih := fold_is_once l (addL m x) a.1 (by omega)
   rw [p.1] at ih
   refine ⟨⟨fun y hy q => ?_, ih.1⟩, fun y hy => ?_⟩
   ·have := ih.2 y hy
    rw [look_put hm, if_pos q.symm] at this
    cases this
   ·rcases List.mem_cons.1 hy with rfl | hy
    ·exact p.2
    ·have := ih.2 y hy
     rw [look_put hm] at this
     split at this
     ·cases this
     ·exact this
theorem all_once {L : List Bd} (he : eachE L = 0) : (allL L).length < L.length ↔ ¬ Once L := by
 have e := eachE_zero.1 he
 constructor
 ·intro h q
  have := fold_once L [] trivial e.2 q (fun _ _ => rfl) (by simpa using e.1)
  simp at this
  unfold allL at h
  omega
 ·intro h
  have := (allL_asc L).2
  by_cases c : (allL L).length = L.length
  ·exact absurd (fold_is_once L [] trivial (by simpa [allL] using c)).1 h
  ·omega
theorem all_perm {L m : List Bd} (he : eachE L = 0) (hp : L.Perm m) (hm : Asc m) : allL L = m := by
 have ho : Once L := (once_perm hp).2 hm.once
 have e := eachE_zero.1 he
 have l := fold_once L [] trivial e.2 ho (fun _ _ => rfl) (by simpa using e.1)
 refine asc_ext (allL_asc L).1 hm fun key => look_perm (allL_asc L).1.once hm.once (fun x => ⟨fun h => hp.mem_iff.1 (allL_mem h), fun h => ?_⟩) key
 exact fold_all L [] trivial l x (.inl (hp.mem_iff.2 h))
theorem sort_is {L m : List Bd} (he : eachE L = 0) (hp : L.Perm m) (hm : Asc m) : sortE L = 0 ∧ sortL L = m := by
 have c : ¬ (allL L).length < L.length := fun q => (all_once he).1 q ((once_perm hp).2 hm.once)
 have d : ¬ (eachE L ≠ 0) := fun q => q he
 unfold sortE sortL
 rw [if_neg d, if_neg d, if_neg c, if_neg c]
 exact ⟨rfl, all_perm he hp hm⟩
theorem sort_dup {L m : List Bd} (he : eachE L = 0) (hp : L.Perm m) (hs : m.Pairwise fun x y => x.k ≤ y.k) (hm : ¬ Asc m) : sortE L = 10 ∧ sortL L = [] := by
 have c : (allL L).length < L.length := (all_once he).2 fun q => hm (asc_of_le hs ((once_perm hp).1 q))
 have d : ¬ (eachE L ≠ 0) := fun q => q he
 unfold sortE sortL
 rw [if_neg d, if_neg d, if_pos c, if_pos c]
 exact ⟨rfl, rfl⟩

/-! ### searching -/
theorem less_iff : ∀ {L : List Bd}, Asc L → ∀ {key : Int} {i : Nat} {x : Bd}, L[i]? = some x → (x.k < key ↔ i < lessK L key)
 | [], _, _, _, _, h => by simp at h
 | a :: l, ⟨h1, h2⟩, key, i, x, h => by
   by_cases c : a.k < key
   ·have e : lessK (a :: l) key = lessK l key + 1 := by unfold lessK; rw [List.filter_cons_of_pos (by simpa using c)]; rfl
    rw [e]
    cases i with
    | zero => simp at h; subst h; constructor <;> intro _ <;> omega
    | succ i => have := less_iff h2 (key := key) (i := i) (x := x) (by simpa using h); omega
   ·have e : lessK (a :: l) key = 0 := by
     unfold lessK
     rw [List.filter_eq_nil_iff.2 fun y hy => ?_]
     ·rfl
     ·rcases List.mem_cons.1 hy with rfl | hy
      ·simpa using c
      ·have := h1 y hy; simp; omega
    rw [e]
    have : a.k ≤ x.k := by
     rcases List.mem_cons.1 (List.mem_of_getElem? h) with rfl | hx
     ·omega
     ·have := h1 x hx; omega
    omega
theorem look_less {L : List Bd} (h : Asc L) {key : Int} {y : Bd} (e : look L key = some y) : L[lessK L key]? = some y := by
 obtain ⟨m, rfl⟩ := look_some e
 obtain ⟨j, hj, hl, _⟩ := at_of_mem h m
 rw [hl]; exact hj
theorem look_yes {L : List Bd} (h : Asc L) {key : Int} {x : Bd} (hx : L[lessK L key]? = some x) (e : x.k = key) : (look L key).isSome = true := by
 rw [← e, look_mem h.once (List.mem_of_getElem? hx)]; rfl
theorem look_not {L : List Bd} (h : Asc L) {key : Int} {x : Bd} (hx : L[lessK L key]? = some x) (e : x.k ≠ key) : (look L key).isSome = false := by
 cases q : look L key with
 | none => rfl
 | some y =>
   have := look_less h q
   rw [hx] at this
   injection this with this
   subst this
   exact absurd (look_some q).2 e
theorem look_end {L : List Bd} (h : Asc L) {key : Int} (hx : L.length ≤ lessK L key) : (look L key).isSome = false := by
 cases q : look L key with
 | none => rfl
 | some y =>
   have := (List.getElem?_eq_some_iff.1 (look_less h q)).1
   omega

/-! ### two views side by side -/
def Mg (A B : List Bd) (i j : Nat) : Prop := (∀ (p q : Nat) (x y : Bd), i ≤ p → q < j → A[p]? = some x → B[q]? = some y → y.k < x.k) ∧ (∀ (p q : Nat) (x y : Bd), p < i → j ≤ q → A[p]? = some x → B[q]? = some y → x.k < y.k)
theorem mg_start (A B : List Bd) : Mg A B 0 0 := ⟨fun _ _ _ _ _ h => by omega, fun _ _ _ _ h => by omega⟩
theorem asc_at {L : List Bd} (h : Asc L) {i j : Nat} {x y : Bd} (hx : L[i]? = some x) (hy : L[j]? = some y) (hij : i ≤ j) : x.k ≤ y.k := by
 by_cases e : i = j
 ·subst e; rw [hx] at hy; injection hy with hy; subst hy; omega
 ·have := asc_lt h hx hy (by omega); omega
theorem mg_a {A B : List Bd} (hB : Asc B) {i j : Nat} (h : Mg A B i j) {x : Bd} (hx : A[i]? = some x) (hc : ∀ y, B[j]? = some y → x.k < y.k) : look B x.k = none ∧ Mg A B (i + 1) j := by
 have up : ∀ (q : Nat) (y : Bd), j ≤ q → B[q]? = some y → x.k < y.k := fun q y hq hy => by
  have hl := (List.getElem?_eq_some_iff.1 hy).1
  have hj : B[j]? = some (B[j]'(by omega)) := List.getElem?_eq_getElem _
  have := hc _ hj
  have := asc_at hB hj hy hq
  omega
 refine ⟨look_none.2 fun y hy => ?_, fun p q x' y hp hq => h.1 p q x' y (by omega) hq, fun p q x' y hp hq hx' hy => ?_⟩
 ·obtain ⟨q, hq⟩ := List.mem_iff_getElem?.1 hy
  by_cases c : q < j
  ·have := h.1 i q x y (by omega) c hx hq; omega
  ·have := up q y (by omega) hq; omega
 ·by_cases c : p = i
  ·subst c; rw [hx] at hx'; injection hx' with hx'; subst hx'; exact up q y hq hy
  ·exact h.2 p q x' y (by omega) hq hx' hy
theorem mg_b {A B : List Bd} (hA : Asc A) {i j : Nat} (h : Mg A B i j) {y : Bd} (hy : B[j]? = some y) (hc : ∀ x, A[i]? = some x → y.k < x.k) : look A y.k = none ∧ Mg A B i (j + 1) := by
 have up : ∀ (p : Nat) (x : Bd), i ≤ p → A[p]? = some x → y.k < x.k := fun p x hp hx => by
  have hl := (List.getElem?_eq_some_iff.1 hx).1
  have hi : A[i]? = some (A[i]'(by omega)) := List.getElem?_eq_getElem _
  have := hc _ hi
  have := asc_at hA hi hx hp
  omega
 refine ⟨look_none.2 fun x hx => ?_, fun p q x y' hp hq hx hy' => ?_, fun p q x y' hp hq => h.2 p q x y' hp (by omega)⟩
 ·obtain ⟨p, hp⟩ := List.mem_iff_getElem?.1 hx
  by_cases c : p < i
  ·have := h.2 p j x y c (by omega) hp hy; omega
  ·have := up p x (by omega) hp; omega
 ·by_cases c : q = j
  ·subst c; rw [hy] at hy'; injection hy' with hy'; subst hy'; exact up p x hp hx
  ·exact h.1 p q x y' hp (by omega) hx hy'
theorem mg_c {A B : List Bd} (hA : Asc A) (hB : Asc B) {i j : Nat} {x y : Bd} (hx : A[i]? = some x) (hy : B[j]? = some y) (e : x.k = y.k) : look B x.k = some y ∧ look A y.k = some x ∧ Mg A B (i + 1) (j + 1) := by
 refine ⟨by rw [e]; exact look_mem hB.once (List.mem_of_getElem? hy), by rw [← e]; exact look_mem hA.once (List.mem_of_getElem? hx), fun p q x' y' hp hq hx' hy' => ?_, fun p q x' y' hp hq hx' hy' => ?_⟩
 ·have a := asc_lt hA hx hx' (by omega)
  have b := asc_at hB hy' hy (by omega)
  omega
 ·have a := asc_at hA hx' hx (by omega)
  have b := asc_lt hB hy hy' (by omega)
  omega
theorem ret_fnd {a b : Int} {c d : Bool} (h : a = b) (k : c = d) : Ending.returned (.tuple #[.int .i64 a, .bool c]) = .returned (.tuple #[.int .i64 b, .bool d]) := by rw [h, k]
theorem vfind_some (base : Option Addr) (cap : Nat) (L : List Bd) (key : Int) (w : World) (h : Lst w (.slice base L.length cap) L) (hl : L.length ≤ 1000000) (asc : Asc L) :
 Calls Tryz.prog 61 #[.slice base L.length cap, .int .u32 key] w fun e w' => e = .returned (.tuple #[.int .i64 (lessK L key), .bool (look L key).isSome]) ∧ Kep w.heap.size w w' := by
 obtain ⟨n, hn⟩ : ∃ n, n = L.length := ⟨_, rfl⟩
 have HN := Lib.hid hn.symm
 rw [← hn] at h hl ⊢
 have H := Lib.hid h
 have HA := Lib.hid asc
 have hle := lessK_le L key
 rw [← hn] at hle
 obtain ⟨t, ht⟩ : ∃ t, t = lessK L key := ⟨_, rfl⟩
 rw [← ht] at hle ⊢
 have HT := Lib.hid ht.symm
 obtain ⟨z, hz⟩ : ∃ z, z = (look L key).isSome := ⟨_, rfl⟩
 rw [← hz]
 have HZ := Lib.hid hz
 have hl' : (n : Int) ≤ 1000000 := by omega
 clear hn h asc ht hz
 go_enter Tryz.func61, Tryz.ntmps61
 go_wp2
 go_loop [6, 7] (fun lo hi => ∃ a b : Nat, a ≤ t ∧ t ≤ b ∧ b ≤ n ∧ lo = .int .i64 a ∧ hi = .int .i64 b) (fun lo hi => (RowKit.intOf hi).toNat - (RowKit.intOf lo).toNat)
 case atStart => exact ⟨0, n, by omega, hle, by omega, rfl, rfl⟩
 case round =>
  obtain ⟨a, b, ha, hb, hbn, rfl, rfl⟩ := hrel
  by_cases hlt : a < b
  ·obtain ⟨d, hd⟩ : ∃ d : Nat, d = (b - a) / 2 := ⟨_, rfl⟩
   obtain ⟨m, hm⟩ : ∃ m : Nat, m = a + d := ⟨_, rfl⟩
   have p0 : (0 : Int) ≤ (b : Int) - (a : Int) := by omega
   have r1 : ((b : Int) - (a : Int)) / 2 = (d : Int) := by omega
   have r2 : (a : Int) + (d : Int) = (m : Int) := by omega
   have hmb : m < b := by omega
   have ham : a ≤ m := by omega
   have hmn : m < n := by omega
   have i0 : (0 : Int) ≤ (m : Int) := Int.natCast_nonneg _
   have i1 : (m : Int) < (n : Int) := by omega
   have hx : L[m]? = some (L[m]'(by rw [HN.out]; exact hmn)) := List.getElem?_eq_getElem _
   generalize L[m]'(by rw [HN.out]; exact hmn) = x at hx
   obtain ⟨g1, off1, hb1, hc1⟩ := Lst.at_ H.out hx
   subst hb1
   have x0 : w.cell? ⟨g1, off1 + m * 10, none⟩ = some (.int .u32 x.k) := hc1 0 (by omega)
   have hq := less_iff HA.out (key := key) hx
   rw [HT.out] at hq
   obtain ⟨xk, hxk⟩ : ∃ k, k = x.k := ⟨_, rfl⟩
   rw [← hxk] at x0 hq
   clear hc1 hx hd hm hxk
   by_cases c : xk < key
   ·have q := hq.1 c
    clear hq
    go_wp2
    go_round
    case rel => exact ⟨m + 1, b, by omega, hb, hbn, by go_num, rfl⟩
    case measure => simp [RowKit.intOf]; omega
   ·have q : t ≤ m := Nat.le_of_not_lt fun q => c (hq.2 q)
    clear hq
    go_wp2
    go_round
    case rel => exact ⟨a, m, ha, q, by omega, rfl, rfl⟩
    case measure => simp [RowKit.intOf]; omega
  ·have e : a = b := by omega
   subst e
   have e : a = t := by omega
   subst e
   by_cases c : a < n
   ·have hx : L[a]? = some (L[a]'(by rw [HN.out]; exact c)) := List.getElem?_eq_getElem _
    generalize L[a]'(by rw [HN.out]; exact c) = x at hx
    obtain ⟨g1, off1, hb1, hc1⟩ := Lst.at_ H.out hx
    subst hb1
    have x0 : w.cell? ⟨g1, off1 + a * 10, none⟩ = some (.int .u32 x.k) := hc1 0 (by omega)
    have i0 : (0 : Int) ≤ (a : Int) := Int.natCast_nonneg _
    have i1 : (a : Int) < (n : Int) := by omega
    have y1 : x.k = key → z = true := fun e => by rw [HZ.out]; exact look_yes HA.out (by rw [HT.out]; exact hx) e
    have y2 : x.k ≠ key → z = false := fun e => by rw [HZ.out]; exact look_not HA.out (by rw [HT.out]; exact hx) e
    obtain ⟨xk, hxk⟩ : ∃ k, k = x.k := ⟨_, rfl⟩
    rw [← hxk] at x0 y1 y2
    clear hc1 hx hxk
    by_cases q : xk = key
    ·have hz := y1 q
     subst q
     subst hz
     clear y1 y2
     go_wp2_with fail
     go_quiet (fail)
     go_wp2
     go_ret2
     exact ⟨rfl, (Kep.refl _ _).drewN _⟩
    ·have hz := y2 q
     subst hz
     have e2 : (xk == key) = false := beq_eq_false_iff_ne.2 q
     clear y1 y2
     go_wp2_with fail
     go_quiet (fail)
     go_wp2
     go_ret2
     exact ⟨rfl, (Kep.refl _ _).drewN _⟩
   ·have hz : z = false := by rw [HZ.out]; exact look_end HA.out (by rw [HN.out, HT.out]; omega)
    subst hz
    have c2 : (n : Int) ≤ (a : Int) := by omega
    have c3 : decide ((a : Int) < (n : Int)) = false := decide_eq_false (by omega)
    go_wp2_with fail
    go_quiet (fail)
    go_wp2
    go_ret2
    exact ⟨rfl, (Kep.refl _ _).drewN _⟩
theorem vfind_any : VFind := fun v L key w h _ hl asc _ => by
 obtain ⟨base, cap, rfl⟩ := h.shape
 exact vfind_some base cap L key w h hl asc
theorem vclone_nil (cap : Nat) (w : World) : Calls Tryz.prog 29 #[.slice none 0 cap] w fun e w' => ∃ v', e = .returned v' ∧ w'.ownsRow w.heap.size 40 10 v' ([] : List Bd).length (([] : List Bd).flatMap vals) ∧ Kep w.heap.size w w' := by
 have hq := fun w a n c n' c' => Lib.run_eql_slice_nil (P := Tryz.prog) w 22 40 a n c n' c' Tryz.underlying22
 go_enter Tryz.func29, Tryz.ntmps29
 go_wp2
 go_ret
 exact ⟨_, rfl, World.ownsRow_nil _ _ _ _, Kep.refl _ _⟩
theorem vclone {v : Value} {D : List Bd} (w : World) (h : Lst w v D) (hn : D.length ≤ 4096) : Calls Tryz.prog 29 #[v] w fun e w' => ∃ v', e = .returned v' ∧ w'.ownsRow w.heap.size 40 10 v' D.length (D.flatMap vals) ∧ Kep w.heap.size w w' := by
 have hs := lst_sqK h
 obtain ⟨b, c, rfl⟩ := hs.shape
 cases b with
 | none =>
   have hD : D = [] := by
    cases D with
    | nil => rfl
    | cons y D =>
      obtain ⟨_, _, e0, hc⟩ := hs
      injection e0 with e1
      obtain ⟨g, off, e2, _⟩ := hc 0 y rfl
      rw [← e1] at e2
      cases e2
   subst hD
   exact vclone_nil c w
 | some a =>
   have hq := fun w a n c n' c' => Lib.run_eql_slice_nil (P := Tryz.prog) w 22 40 a n c n' c' Tryz.underlying22
   have HS := Lib.hid (hs.kep (kep_more (Kep.refl _ _) (.cells #[] 40)))
   have HN := Lib.hid hn
   clear h hs hn
   go_enter Tryz.func29, Tryz.ntmps29
   go_wp2_with (at_builtin; refine wpList_appAll vals 10 vals_lenK vals_oneK rfl _ _ 22 rfl 40 _ 40 Tryz.underlying22 info_body rfl (by decide) w.heap.size _ _ (.slice (some a) D.length c) ([] : List Bd) D rfl (World.ownsRow_made w #[] 0 (Nat.le_refl _) (Nat.zero_le _) (by simp)) rfl HS.out (by have := HN.out; simp only [List.length_nil, Nat.zero_add]; unfold maxLen; omega) (by have := HN.out; simp only [List.length_nil, Nat.zero_add]; omega) (by simp) ?_; intro v4 w4 o4 k4; have HO := Lib.hid o4; have HK := Lib.hid k4; clear o4 k4)
   go_ret
   exact ⟨_, rfl, by simpa using HO.out, ((Kep.refl _ _).alloc (Nat.le_refl _) _).trans HK.out⟩
def entB (x : Bd) : Ent := ⟨x.k, x.px - exB x, x.py - eyB x, x.px + exB x, x.py + eyB x⟩
theorem ent_ok {x : Bd} (h : chkB x = 0) (hk : (Lit.int .u32 x.k).wf = true) : EntOk (entB x) := by
 obtain ⟨h1, h2, h3, h4⟩ := ext_B h
 refine ⟨hk, ⟨?_, ?_, ?_, ?_⟩, ?_⟩
 ·show In3 (x.px - exB x); unfold In3; omega
 ·show In3 (x.py - eyB x); unfold In3; omega
 ·show In3 (x.px + exB x); unfold In3; omega
 ·show In3 (x.py + eyB x); unfold In3; omega
 ·show (cellsB (x.px - exB x) (x.py - eyB x) (x.px + exB x) (x.py + eyB x)).length ≤ 50
  unfold cellsB
  split
  ·simp
  ·rw [allC_len]
   have e1 : ncB (x.px - exB x) (x.px + exB x) ≤ 6 := by unfold ncB colN; omega
   have e2 : ncB (x.py - eyB x) (x.py + eyB x) ≤ 6 := by unfold ncB colN; omega
   have := Nat.mul_le_mul e2 e1
   omega
theorem ovP_ent (x y : Bd) : ovP x y = ovlB (entB x).a (entB x).b (entB x).c (entB x).d (entB y).a (entB y).b (entB y).c (entB y).d := rfl
def allK : List Bd → List (Int × Int)
 | [] => []
 | x :: l => (l.map fun y => (x.k, y.k)) ++ allK l
theorem allK_len : ∀ L : List Bd, 2 * ((allK L).length : Int) = (L.length : Int) * ((L.length : Int) - 1)
 | [] => by simp [allK]
 | x :: l => by
   have h := allK_len l
   unfold allK
   rw [List.length_append, List.length_map, List.length_cons]
   generalize (allK l).length = a at *
   generalize l.length = n at *
   have e : ((n + 1 : Nat) : Int) * (((n + 1 : Nat) : Int) - 1) = (n : Int) * ((n : Int) - 1) + 2 * (n : Int) := by
    have e1 : ((n + 1 : Nat) : Int) = (n : Int) + 1 := by omega
    rw [e1]
    grind
   rw [e, ← h]
   omega
theorem allK_mem : ∀ {L : List Bd}, Asc L → ∀ p : Int × Int, p ∈ allK L ↔ ∃ x ∈ L, ∃ y ∈ L, x.k < y.k ∧ p = (x.k, y.k)
 | [], _, p => by simp [allK]
 | a :: l, h, p => by
   simp only [allK, List.mem_append, allK_mem h.2]
   constructor
   ·rintro (hp | ⟨x, hx, y, hy, h1, rfl⟩)
    ·obtain ⟨y, hy, rfl⟩ := List.mem_map.1 hp
     exact ⟨a, by simp, y, by simp [hy], h.1 y hy, rfl⟩
    ·exact ⟨x, by simp [hx], y, by simp [hy], h1, rfl⟩
   ·rintro ⟨x, hx, y, hy, h1, rfl⟩
    rcases List.mem_cons.1 hx with e | hx2
    ·rcases List.mem_cons.1 hy with e2 | hy2
     ·rw [e, e2] at h1; omega
     ·rw [e]
      exact .inl (List.mem_map.2 ⟨y, hy2, rfl⟩)
    ·rcases List.mem_cons.1 hy with e2 | hy2
     ·have := h.1 x hx2; rw [e2] at h1; omega
     ·exact .inr ⟨x, hx2, y, hy2, h1, rfl⟩
theorem allK_sort : ∀ {L : List Bd}, Asc L → SortS pless (allK L)
 | [], _ => List.Pairwise.nil
 | a :: l, h => by
   show List.Pairwise _ ((l.map fun y => (a.k, y.k)) ++ allK l)
   rw [List.pairwise_append]
   refine ⟨?_, allK_sort h.2, fun p hp q hq => ?_⟩
   ·rw [List.pairwise_map]
    have hs : ∀ {m : List Bd}, Asc m → m.Pairwise fun y z => pless (a.k, y.k) (a.k, z.k) = true := by
     intro m hm
     induction m with
     | nil => exact List.Pairwise.nil
     | cons b m ih => exact List.Pairwise.cons (fun z hz => by have := hm.1 z hz; unfold pless; exact decide_eq_true (by dsimp only; omega)) (ih hm.2)
    exact hs h.2
   ·obtain ⟨y, _, rfl⟩ := List.mem_map.1 hp
    obtain ⟨u, hu, v, _, _, rfl⟩ := (allK_mem h.2 q).1 hq
    have := h.1 u hu
    unfold pless
    exact decide_eq_true (by dsimp only; omega)
theorem cand_ent {L : List Bd} {p : Int × Int} : p ∈ candL (L.map entB) ↔ ∃ x ∈ L, ∃ y ∈ L, candT (entB x) (entB y) = true ∧ p = (x.k, y.k) := by
 rw [(candL_spec _).2]
 constructor
 ·rintro ⟨e, he, f, hf, h, rfl⟩
  obtain ⟨x, hx, rfl⟩ := List.mem_map.1 he
  obtain ⟨y, hy, rfl⟩ := List.mem_map.1 hf
  exact ⟨x, hx, y, hy, h, rfl⟩
 ·rintro ⟨x, hx, y, hy, h, rfl⟩
  exact ⟨entB x, List.mem_map_of_mem hx, entB y, List.mem_map_of_mem hy, h, rfl⟩
theorem cand_all {L : List Bd} (h : Asc L) : (candL (L.map entB)).length ≤ (allK L).length := by
 have e : candL (L.map entB) = (allK L).filter fun p => decide (p ∈ candL (L.map entB)) := by
  refine SortS.ext pless_strict (candL_spec _).1 ((allK_sort h).filter _) fun p => ?_
  rw [List.mem_filter, decide_eq_true_eq]
  refine ⟨fun q => ⟨?_, q⟩, fun q => q.2⟩
  obtain ⟨x, hx, y, hy, hc, rfl⟩ := cand_ent.1 q
  unfold candT at hc
  rw [Bool.and_eq_true] at hc
  exact (allK_mem h _).2 ⟨x, hx, y, hy, of_decide_eq_true hc.1, rfl⟩
 rw [e]
 exact List.length_filter_le _ _
def ovK (L : List Bd) (p : Int × Int) : Bool := match look L p.1, look L p.2 with
 | some x, some y => ovP x y
 | _, _ => false
theorem ovK_at {L : List Bd} (h : Asc L) {x y : Bd} (hx : x ∈ L) (hy : y ∈ L) : ovK L (x.k, y.k) = ovP x y := by
 unfold ovK
 rw [look_mem h.once hx, look_mem h.once hy]
theorem pairs_cand {L : List Bd} (h : Asc L) : pairsL L = (candL (L.map entB)).filter (ovK L) := by
 refine SortS.ext pless_strict (pairs_sort h) ((candL_spec _).1.filter _) fun p => ?_
 rw [pairs_mem h, List.mem_filter, cand_ent]
 constructor
 ·rintro ⟨x, hx, y, hy, h1, h2, rfl⟩
  refine ⟨⟨x, hx, y, hy, ?_, rfl⟩, by rw [ovK_at h hx hy]; exact h2⟩
  unfold candT
  rw [Bool.and_eq_true]
  exact ⟨decide_eq_true h1, ovl_com (by rw [← ovP_ent]; exact h2)⟩
 ·rintro ⟨⟨x, hx, y, hy, hc, rfl⟩, h2⟩
  rw [ovK_at h hx hy] at h2
  unfold candT at hc
  rw [Bool.and_eq_true] at hc
  exact ⟨x, hx, y, hy, of_decide_eq_true hc.1, h2, rfl⟩
end Go.Proofs.YtaknmlohnifcdaaGreatDoor
