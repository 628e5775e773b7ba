/-
  Package view: whether a key is in an ascending list (slices.BinarySearch).
-/
import Derived.Test.YtlfbiijillpnnaaViewOps
import Derived.Test.YtlfbiijillpnnaaViewOnce
import Derived.Deep.QuietTactic
import Derived.BigQuiet
namespace Go.Proofs.Ytlfbiijillpnnaa
open Go.RowKit Go.Lib

/-- The keys of a list of bodies. -/
def keysL (L : List Bd) : List Int := L.map (·.k)
theorem keysL_len (L : List Bd) : (keysL L).length = L.length := by simp [keysL]
theorem keysL_at {L : List Bd} {i : Nat} {x : Bd} (h : L[i]? = some x) : (keysL L)[i]? = some x.k := by simp [keysL, h]
theorem less_any (x y : Int) (w : World) : Calls Try.prog 59 #[.int .u32 x, .int .u32 y] w fun e w' => e = .returned (.bool (decide (x < y))) ∧ w = w' := by
  by_cases c : x < y
  · rw [decide_eq_true c]
    go_enter Try.func59, Try.ntmps59
    go_wp2
    go_ret
    exact ⟨rfl, rfl⟩
  · rw [decide_eq_false c]
    go_enter Try.func59, Try.ntmps59
    go_wp2
    go_ret
    exact ⟨rfl, rfl⟩
theorem nan_any (x : Int) (w : World) : Calls Try.prog 60 #[.int .u32 x] w fun e w' => e = .returned (.bool false) ∧ w = w' := by
  have e : (x != x) = false := by simp
  go_enter Try.func60, Try.ntmps60
  go_wp2
  go_ret
  exact ⟨rfl, rfl⟩
set_option maxRecDepth 100000 in
set_option maxHeartbeats 1000000 in
theorem search_any (base : Option Addr) (cap : Nat) (L : List Bd) (key : Int) (w : World) (h : KLst w (.slice base L.length cap) (keysL L)) (hl : L.length ≤ 1000000) (asc : Asc L) :
    Calls Try.prog 44 #[.slice base L.length cap, .int .u32 key] w fun e w' => e = .returned (.tuple #[.int .i64 (lessK L key), .bool (look L key).isSome]) ∧ Kep w.heap.size w w' := by
  obtain ⟨n, hn⟩ : ∃ n, n = L.length := ⟨_, rfl⟩
  have HN := Lib.hid hn.symm
  rw [← hn] at h hl ⊢
  have H := Lib.hid h
  have HA := Lib.hid asc
  have hle := lessK_le L key
  rw [← hn] at hle
  obtain ⟨t, ht⟩ : ∃ t, t = lessK L key := ⟨_, rfl⟩
  rw [← ht] at hle ⊢
  have HT := Lib.hid ht.symm
  obtain ⟨z, hz⟩ : ∃ z, z = (look L key).isSome := ⟨_, rfl⟩
  rw [← hz]
  have HZ := Lib.hid hz
  have hl' : (n : Int) ≤ 1000000 := by omega
  have LA := Lib.hid (fun x w => less_any x key w)
  have NA := Lib.hid (fun x w => nan_any x w)
  clear hn h asc ht hz
  go_enter Try.func44, Try.ntmps44
  go_wp2
  go_loop [7, 8] (fun lo hi => ∃ a b : Nat, a ≤ t ∧ t ≤ b ∧ b ≤ n ∧ lo = .int .i64 a ∧ hi = .int .i64 b) (fun lo hi => (RowKit.intOf hi).toNat - (RowKit.intOf lo).toNat)
  case atStart => exact ⟨0, n, by omega, hle, by omega, rfl, rfl⟩
  case round =>
    obtain ⟨a, b, ha, hb, hbn, rfl, rfl⟩ := hrel
    by_cases hlt : a < b
    · obtain ⟨s, hs⟩ : ∃ s : Nat, s = a + b := ⟨_, rfl⟩
      obtain ⟨m, hm⟩ : ∃ m : Nat, m = s / 2 := ⟨_, rfl⟩
      have r0 : (a : Int) + (b : Int) = (s : Int) := by omega
      have r1 : (s : Int) / 2 = (m : Int) := by omega
      have s0 : (0 : Int) ≤ (s : Int) := Int.natCast_nonneg _
      have s1 : (s : Int) ≤ 2000000 := by omega
      have hmb : m < b := by omega
      have ham : a ≤ m := by omega
      have hmn : m < n := by omega
      have i0 : (0 : Int) ≤ (m : Int) := Int.natCast_nonneg _
      have i1 : (m : Int) < (n : Int) := by omega
      have hx : L[m]? = some (L[m]'(by rw [HN.out]; exact hmn)) := List.getElem?_eq_getElem _
      generalize L[m]'(by rw [HN.out]; exact hmn) = x at hx
      obtain ⟨g1, off1, hb1, x0⟩ := KLst.at_ H.out (keysL_at hx)
      subst hb1
      have hq := less_iff HA.out (key := key) hx
      rw [HT.out] at hq
      obtain ⟨xk, hxk⟩ : ∃ k, k = x.k := ⟨_, rfl⟩
      rw [← hxk] at x0 hq
      clear hx hs hm hxk
      by_cases c : xk < key
      · have q := hq.1 c
        have c2 : decide (xk < key) = true := decide_eq_true c
        clear hq
        go_wp2_with ((with_reducible refine (LA.out _ _).mono ?_); rintro e w5 ⟨rfl, rfl⟩)
        go_round
        case rel => exact ⟨m + 1, b, by omega, hb, hbn, by go_num, rfl⟩
        case measure => simp [RowKit.intOf]; omega
      · have q : t ≤ m := Nat.le_of_not_lt fun q => c (hq.2 q)
        have c2 : decide (xk < key) = false := decide_eq_false c
        clear hq
        go_wp2_with ((with_reducible refine (LA.out _ _).mono ?_); rintro e w5 ⟨rfl, rfl⟩)
        go_round
        case rel => exact ⟨a, m, ha, q, by omega, rfl, rfl⟩
        case measure => simp [RowKit.intOf]; omega
    · have e : a = b := by omega
      subst e
      have e : a = t := by omega
      subst e
      by_cases c : a < n
      · have hx : L[a]? = some (L[a]'(by rw [HN.out]; exact c)) := List.getElem?_eq_getElem _
        generalize L[a]'(by rw [HN.out]; exact c) = x at hx
        obtain ⟨g1, off1, hb1, x0⟩ := KLst.at_ H.out (keysL_at hx)
        subst hb1
        have i0 : (0 : Int) ≤ (a : Int) := Int.natCast_nonneg _
        have i1 : (a : Int) < (n : Int) := by omega
        have y1 : x.k = key → z = true := fun e => by rw [HZ.out]; exact look_yes HA.out (by rw [HT.out]; exact hx) e
        have y2 : x.k ≠ key → z = false := fun e => by rw [HZ.out]; exact look_not HA.out (by rw [HT.out]; exact hx) e
        obtain ⟨xk, hxk⟩ : ∃ k, k = x.k := ⟨_, rfl⟩
        rw [← hxk] at x0 y1 y2
        clear hx hxk
        by_cases q : xk = key
        · have hz := y1 q
          subst q
          subst hz
          clear y1 y2
          go_wp2_with ((with_reducible refine (NA.out _ _).mono ?_); rintro e w5 ⟨rfl, rfl⟩)
          go_ret2
          exact ⟨rfl, Kep.refl _ _⟩
        · have hz := y2 q
          subst hz
          have e2 : (xk == key) = false := beq_eq_false_iff_ne.2 q
          clear y1 y2
          go_wp2_with ((with_reducible refine (NA.out _ _).mono ?_); rintro e w5 ⟨rfl, rfl⟩)
          go_ret2
          exact ⟨rfl, Kep.refl _ _⟩
      · have hz : z = false := by rw [HZ.out]; exact look_end HA.out (by rw [HN.out, HT.out]; omega)
        subst hz
        have c2 : (n : Int) ≤ (a : Int) := by omega
        have c3 : decide ((a : Int) < (n : Int)) = false := decide_eq_false (by omega)
        go_wp2_with fail
        go_ret2
        exact ⟨rfl, Kep.refl _ _⟩
theorem contains_any (v : Value) (L : List Bd) (key : Int) (w : World) (h : KLst w v (keysL L)) (hl : L.length ≤ 1000000) (asc : Asc L) (z : Bool) (hz : (look L key).isSome = z) :
    Calls Try.prog 35 #[v, .int .u32 key] w fun e w' => e = .returned (.bool z) ∧ Kep w.heap.size w w' := by
  obtain ⟨base, cap, rfl⟩ := h.shape
  rw [keysL_len] at h ⊢
  have C := Lib.hid (search_any base cap L key w h hl asc)
  rw [hz] at C
  generalize L.length = n at *
  generalize lessK L key = t at *
  clear h hz asc hl
  go_enter Try.func35, Try.ntmps35
  go_wp2_with ((with_reducible refine (C.out).mono ?_); rintro e w2 ⟨rfl, k2⟩; have K2 := Lib.hid k2; clear k2)
  go_ret
  exact ⟨rfl, K2.out⟩
end Go.Proofs.Ytlfbiijillpnnaa
