/-
  Package grid: slices.BinarySearch and slices.Insert over an ascending list of keys.
-/
import Derived.Test.YtnmnbogjnjbopaaDoorGridCon
import Derived.Shelf.Spec.SlicesInsertGrow
namespace Go.Proofs.YtnmnbogjnjbopaaDoor
open Go.RowKit Go.Lib

theorem kless_any (x y : Int) (w : World) : Calls Tryd.prog 84 #[.int .u32 x, .int .u32 y] w fun e w' => e = .returned (.bool (decide (x < y))) ∧ w = w' := by
  by_cases c : x < y
  · rw [decide_eq_true c]
    go_enter Tryd.func84, Tryd.ntmps84
    go_wp2
    go_ret
    exact ⟨rfl, rfl⟩
  · rw [decide_eq_false c]
    go_enter Tryd.func84, Tryd.ntmps84
    go_wp2
    go_ret
    exact ⟨rfl, rfl⟩
theorem knan_any (x : Int) (w : World) : Calls Tryd.prog 85 #[.int .u32 x] w fun e w' => e = .returned (.bool false) ∧ w = w' := by
  have e : (x != x) = false := by simp
  go_enter Tryd.func85, Tryd.ntmps85
  go_wp2
  go_ret
  exact ⟨rfl, rfl⟩
/-- How many keys of an ascending list are less. -/
def lessN (K : List Int) (key : Int) : Nat := (K.takeWhile fun x => kless x key).length
theorem lessN_le (K : List Int) (key : Int) : lessN K key ≤ K.length := by
  unfold lessN
  exact List.Sublist.length_le (List.takeWhile_sublist _)
theorem lessN_iff : ∀ {K : List Int} {key x : Int} {m : Nat}, SortS kless K → K[m]? = some x → (x < key ↔ m < lessN K key)
  | [], _, _, _, _, h => by simp at h
  | y :: K, key, x, m, hs, h => by
    obtain ⟨h1, h2⟩ := List.pairwise_cons.1 hs
    unfold lessN
    by_cases c : kless y key = true
    · rw [List.takeWhile_cons_of_pos (p := fun x => kless x key) c, List.length_cons]
      have c' := of_decide_eq_true c
      cases m with
      | zero =>
        simp at h
        subst h
        exact ⟨fun _ => Nat.succ_pos _, fun _ => c'⟩
      | succ m =>
        have := lessN_iff (key := key) h2 (by simpa using h : K[m]? = some x)
        unfold lessN at this
        rw [this]
        omega
    · rw [List.takeWhile_cons_of_neg (p := fun x => kless x key) c, List.length_nil]
      have c' : ¬ y < key := fun q => c (decide_eq_true q)
      refine ⟨fun q => ?_, fun q => absurd q (Nat.not_lt_zero _)⟩
      cases m with
      | zero =>
        simp at h
        subst h
        exact absurd q c'
      | succ m =>
        have hx : x ∈ K := List.mem_of_getElem? (i := m) (by simpa using h)
        have := of_decide_eq_true (h1 x hx)
        omega
theorem lessN_in {K : List Int} {key x : Int} (hs : SortS kless K) (h : K[lessN K key]? = some x) : x = key ↔ key ∈ K := by
  have h1 := (lessN_iff (key := key) hs h).1
  refine ⟨fun e => e ▸ List.mem_of_getElem? h, fun e => ?_⟩
  obtain ⟨m, hm⟩ := List.getElem?_of_mem e
  have h2 := (lessN_iff (key := key) hs hm).2
  have h3 : ¬ m < lessN K key := fun q => by have := h2 q; omega
  by_cases c : m = lessN K key
  · subst c
    rw [hm] at h
    injection h with h
    exact h.symm
  · obtain ⟨l1, e1⟩ := List.getElem?_eq_some_iff.1 h
    obtain ⟨l2, e2⟩ := List.getElem?_eq_some_iff.1 hm
    have := of_decide_eq_true (List.pairwise_iff_getElem.1 hs _ _ l1 l2 (by omega))
    rw [e1, e2] at this
    have := h1 this
    omega
theorem lessN_out {K : List Int} {key : Int} (hs : SortS kless K) (h : K.length ≤ lessN K key) : ¬ key ∈ K := fun e => by
  obtain ⟨m, hm⟩ := List.getElem?_of_mem e
  have l := (List.getElem?_eq_some_iff.1 hm).1
  have := (lessN_iff (key := key) hs hm).2 (by omega)
  omega
/-- A key put into an ascending list. -/
theorem putS_has {K : List Int} {key : Int} (hs : SortS kless K) (h : key ∈ K) : putS kless K key = K :=
  SortS.ext kless_strict (putS_sort kless_strict hs) hs fun x => by
    rw [putS_mem kless_strict hs]
    exact ⟨fun q => q.elim (fun e => e ▸ h) id, .inr⟩
theorem putS_new {K : List Int} {key : Int} (hs : SortS kless K) (h : ¬ key ∈ K) : putS kless K key = K.take (lessN K key) ++ key :: K.drop (lessN K key) := by
  have t : K.takeWhile (fun x => kless x key) = K.take (lessN K key) ∧ K.dropWhile (fun x => kless x key) = K.drop (lessN K key) :=
    take_while (fun x hx => by
      obtain ⟨m, hm⟩ := List.getElem?_of_mem hx
      have l := (List.getElem?_eq_some_iff.1 hm).1
      rw [List.length_take] at l
      rw [List.getElem?_take_of_lt (by omega)] at hm
      exact decide_eq_true ((lessN_iff hs hm).2 (by omega))) (fun x hx => decide_eq_false fun q => by have := (lessN_iff hs hx).1 q; omega)
  unfold putS
  rw [t.1, t.2]
  congr 2
  cases c : K.drop (lessN K key) with
  | nil => rfl
  | cons y l =>
    rw [dropOne_cons, if_neg (fun e => h ?_)]
    have : y ∈ K.drop (lessN K key) := by rw [c]; simp
    rw [← e]
    exact List.mem_of_mem_drop this
theorem ksq_at {w : World} {base : Option Addr} {n cap k : Nat} {K : List Int} {x : Int} (h : Sq kv 1 w (.slice base n cap) K) (hx : K[k]? = some x) : ∃ g off, base = some ⟨g, off, none⟩ ∧ w.cell? ⟨g, off + k, none⟩ = some (.int .u32 x) := by
  obtain ⟨b, c, e, hc⟩ := h
  injection e with e1 e2 e3
  subst e1
  obtain ⟨g, off, e, hi⟩ := hc k x hx
  have := hi 0 _ rfl
  rw [Nat.mul_one] at this
  exact ⟨g, off, e, this⟩
set_option maxRecDepth 100000 in
set_option maxHeartbeats 1000000 in
theorem ksearch (base : Option Addr) (cap : Nat) (L : List Int) (key : Int) (w : World) (h : Sq kv 1 w (.slice base L.length cap) L) (hl : L.length ≤ 1000000) (asc : SortS kless L) :
    Calls Tryd.prog 68 #[.slice base L.length cap, .int .u32 key] w fun e w' => e = .returned (.tuple #[.int .i64 (lessN L key), .bool (decide (key ∈ L))]) ∧ w = w' := by
  obtain ⟨n, hn⟩ : ∃ n, n = L.length := ⟨_, rfl⟩
  have HN := Lib.hid hn.symm
  rw [← hn] at h hl ⊢
  have H := Lib.hid h
  have HA := Lib.hid asc
  have hle := lessN_le L key
  rw [← hn] at hle
  have hout := lessN_out (key := key) asc
  rw [← hn] at hout
  have hin := fun x => lessN_in (key := key) (x := x) asc
  obtain ⟨t, ht⟩ : ∃ t, t = lessN L key := ⟨_, rfl⟩
  rw [← ht] at hle hout hin ⊢
  have HT := Lib.hid ht.symm
  obtain ⟨z, hz⟩ : ∃ z, z = decide (key ∈ L) := ⟨_, rfl⟩
  have HO : Hid (n ≤ t → z = false) := Lib.hid fun q => by rw [hz]; exact decide_eq_false (hout q)
  have HI : Hid (∀ x, L[t]? = some x → decide (x = key) = z) := Lib.hid fun x q => by rw [hz]; exact decide_eq_decide.2 (hin x q)
  rw [← hz]
  have hl' : (n : Int) ≤ 1000000 := by omega
  have LA := Lib.hid (fun x w => kless_any x key w)
  have NA := Lib.hid (fun x w => knan_any x w)
  clear hn h asc ht hz hout hin
  go_enter Tryd.func68, Tryd.ntmps68
  go_wp2
  go_loop [7, 8] (fun lo hi => ∃ a b : Nat, a ≤ t ∧ t ≤ b ∧ b ≤ n ∧ lo = .int .i64 a ∧ hi = .int .i64 b) (fun lo hi => (RowKit.intOf hi).toNat - (RowKit.intOf lo).toNat)
  case atStart => exact ⟨0, n, by omega, hle, by omega, rfl, rfl⟩
  case round =>
    obtain ⟨a, b, ha, hb, hbn, rfl, rfl⟩ := hrel
    by_cases hlt : a < b
    · obtain ⟨s, hs⟩ : ∃ s : Nat, s = a + b := ⟨_, rfl⟩
      obtain ⟨m, hm⟩ : ∃ m : Nat, m = s / 2 := ⟨_, rfl⟩
      have r0 : (a : Int) + (b : Int) = (s : Int) := by omega
      have r1 : (s : Int) / 2 = (m : Int) := by omega
      have s0 : (0 : Int) ≤ (s : Int) := Int.natCast_nonneg _
      have s1 : (s : Int) ≤ 2000000 := by omega
      have hmb : m < b := by omega
      have ham : a ≤ m := by omega
      have hmn : m < n := by omega
      have i0 : (0 : Int) ≤ (m : Int) := Int.natCast_nonneg _
      have i1 : (m : Int) < (n : Int) := by omega
      have hx : L[m]? = some (L[m]'(by rw [HN.out]; exact hmn)) := List.getElem?_eq_getElem _
      generalize L[m]'(by rw [HN.out]; exact hmn) = x at hx
      obtain ⟨g1, off1, hb1, x0⟩ := ksq_at H.out hx
      subst hb1
      have hq := lessN_iff (key := key) HA.out hx
      rw [HT.out] at hq
      clear hx hs hm
      by_cases c : x < key
      · have q := hq.1 c
        have c2 : decide (x < key) = true := decide_eq_true c
        clear hq
        go_wp2_with ((with_reducible refine (LA.out _ _).mono ?_); rintro e w5 ⟨rfl, rfl⟩)
        go_round
        case rel => exact ⟨m + 1, b, by omega, hb, hbn, by go_num, rfl⟩
        case measure => simp [RowKit.intOf]; omega
      · have q : t ≤ m := Nat.le_of_not_lt fun q => c (hq.2 q)
        have c2 : decide (x < key) = false := decide_eq_false c
        clear hq
        go_wp2_with ((with_reducible refine (LA.out _ _).mono ?_); rintro e w5 ⟨rfl, rfl⟩)
        go_round
        case rel => exact ⟨a, m, ha, q, by omega, rfl, rfl⟩
        case measure => simp [RowKit.intOf]; omega
    · have e : a = b := by omega
      subst e
      have e : a = t := by omega
      subst e
      by_cases c : a < n
      · have hx : L[a]? = some (L[a]'(by rw [HN.out]; exact c)) := List.getElem?_eq_getElem _
        generalize L[a]'(by rw [HN.out]; exact c) = x at hx
        obtain ⟨g1, off1, hb1, x0⟩ := ksq_at H.out hx
        subst hb1
        have i0 : (0 : Int) ≤ (a : Int) := Int.natCast_nonneg _
        have i1 : (a : Int) < (n : Int) := by omega
        have y := HI.out x hx
        clear hx
        by_cases ck : x = key
        · rw [decide_eq_true ck] at y
          subst ck y
          go_wp2_with ((with_reducible refine (NA.out _ _).mono ?_); rintro e w5 ⟨rfl, rfl⟩)
          go_ret2
          exact ⟨rfl, rfl⟩
        · rw [decide_eq_false ck] at y
          subst y
          have e2 : (x == key) = false := beq_eq_false_iff_ne.2 ck
          go_wp2_with ((with_reducible refine (NA.out _ _).mono ?_); rintro e w5 ⟨rfl, rfl⟩)
          go_ret2
          exact ⟨rfl, rfl⟩
      · have e := HO.out (by omega)
        subst e
        have c2 : (n : Int) ≤ (a : Int) := by omega
        have c3 : decide ((a : Int) < (n : Int)) = false := decide_eq_false (by omega)
        go_wp2_with fail
        go_ret2
        exact ⟨rfl, rfl⟩
end Go.Proofs.YtnmnbogjnjbopaaDoor
