/-
  Package view: Find.
-/
import Derived.Test.YtlfbiijillpnnaaViewOps
import Derived.Test.YtlfbiijillpnnaaViewOnce
import Derived.Deep.QuietTactic
import Derived.BigQuiet
namespace Go.Proofs.Ytlfbiijillpnnaa
open Go.RowKit Go.Lib

theorem ret_fnd {a b : Int} {c d : Bool} (h : a = b) (k : c = d) : Ending.returned (.tuple #[.int .i64 a, .bool c]) = .returned (.tuple #[.int .i64 b, .bool d]) := by rw [h, k]
set_option maxRecDepth 100000 in
set_option maxHeartbeats 1000000 in
theorem vfind_some (base : Option Addr) (cap : Nat) (L : List Bd) (key : Int) (w : World) (h : Lst w (.slice base L.length cap) L) (hl : L.length ≤ 1000000) (asc : Asc L) :
    Calls Try.prog 14 #[.slice base L.length cap, .int .u32 key] w fun e w' => e = .returned (.tuple #[.int .i64 (lessK L key), .bool (look L key).isSome]) ∧ Kep w.heap.size w w' := by
  obtain ⟨n, hn⟩ : ∃ n, n = L.length := ⟨_, rfl⟩
  have HN := Lib.hid hn.symm
  rw [← hn] at h hl ⊢
  have H := Lib.hid h
  have HA := Lib.hid asc
  have hle := lessK_le L key
  rw [← hn] at hle
  obtain ⟨t, ht⟩ : ∃ t, t = lessK L key := ⟨_, rfl⟩
  rw [← ht] at hle ⊢
  have HT := Lib.hid ht.symm
  obtain ⟨z, hz⟩ : ∃ z, z = (look L key).isSome := ⟨_, rfl⟩
  rw [← hz]
  have HZ := Lib.hid hz
  have hl' : (n : Int) ≤ 1000000 := by omega
  clear hn h asc ht hz
  go_enter Try.func14, Try.ntmps14
  go_wp2
  go_loop [6, 7] (fun lo hi => ∃ a b : Nat, a ≤ t ∧ t ≤ b ∧ b ≤ n ∧ lo = .int .i64 a ∧ hi = .int .i64 b) (fun lo hi => (RowKit.intOf hi).toNat - (RowKit.intOf lo).toNat)
  case atStart => exact ⟨0, n, by omega, hle, by omega, rfl, rfl⟩
  case round =>
    obtain ⟨a, b, ha, hb, hbn, rfl, rfl⟩ := hrel
    by_cases hlt : a < b
    · obtain ⟨d, hd⟩ : ∃ d : Nat, d = (b - a) / 2 := ⟨_, rfl⟩
      obtain ⟨m, hm⟩ : ∃ m : Nat, m = a + d := ⟨_, rfl⟩
      have p0 : (0 : Int) ≤ (b : Int) - (a : Int) := by omega
      have r1 : ((b : Int) - (a : Int)) / 2 = (d : Int) := by omega
      have r2 : (a : Int) + (d : Int) = (m : Int) := by omega
      have hmb : m < b := by omega
      have ham : a ≤ m := by omega
      have hmn : m < n := by omega
      have i0 : (0 : Int) ≤ (m : Int) := Int.natCast_nonneg _
      have i1 : (m : Int) < (n : Int) := by omega
      have hx : L[m]? = some (L[m]'(by rw [HN.out]; exact hmn)) := List.getElem?_eq_getElem _
      generalize L[m]'(by rw [HN.out]; exact hmn) = x at hx
      obtain ⟨g1, off1, hb1, hc1⟩ := Lst.at_ H.out hx
      subst hb1
      have x0 : w.cell? ⟨g1, off1 + m * 10, none⟩ = some (.int .u32 x.k) := hc1 0 (by omega)
      have hq := less_iff HA.out (key := key) hx
      rw [HT.out] at hq
      obtain ⟨xk, hxk⟩ : ∃ k, k = x.k := ⟨_, rfl⟩
      rw [← hxk] at x0 hq
      clear hc1 hx hd hm hxk
      by_cases c : xk < key
      · have q := hq.1 c
        clear hq
        go_wp2
        go_round
        case rel => exact ⟨m + 1, b, by omega, hb, hbn, by go_num, rfl⟩
        case measure => simp [RowKit.intOf]; omega
      · have q : t ≤ m := Nat.le_of_not_lt fun q => c (hq.2 q)
        clear hq
        go_wp2
        go_round
        case rel => exact ⟨a, m, ha, q, by omega, rfl, rfl⟩
        case measure => simp [RowKit.intOf]; omega
    · have e : a = b := by omega
      subst e
      have e : a = t := by omega
      subst e
      by_cases c : a < n
      · have hx : L[a]? = some (L[a]'(by rw [HN.out]; exact c)) := List.getElem?_eq_getElem _
        generalize L[a]'(by rw [HN.out]; exact c) = x at hx
        obtain ⟨g1, off1, hb1, hc1⟩ := Lst.at_ H.out hx
        subst hb1
        have x0 : w.cell? ⟨g1, off1 + a * 10, none⟩ = some (.int .u32 x.k) := hc1 0 (by omega)
        have i0 : (0 : Int) ≤ (a : Int) := Int.natCast_nonneg _
        have i1 : (a : Int) < (n : Int) := by omega
        have y1 : x.k = key → z = true := fun e => by rw [HZ.out]; exact look_yes HA.out (by rw [HT.out]; exact hx) e
        have y2 : x.k ≠ key → z = false := fun e => by rw [HZ.out]; exact look_not HA.out (by rw [HT.out]; exact hx) e
        obtain ⟨xk, hxk⟩ : ∃ k, k = x.k := ⟨_, rfl⟩
        rw [← hxk] at x0 y1 y2
        clear hc1 hx hxk
        by_cases q : xk = key
        · have hz := y1 q
          subst q
          subst hz
          clear y1 y2
          go_wp2_with fail
          go_quiet (fail)
          go_wp2
          go_ret2
          exact ⟨rfl, (Kep.refl _ _).drewN _⟩
        · have hz := y2 q
          subst hz
          have e2 : (xk == key) = false := beq_eq_false_iff_ne.2 q
          clear y1 y2
          go_wp2_with fail
          go_quiet (fail)
          go_wp2
          go_ret2
          exact ⟨rfl, (Kep.refl _ _).drewN _⟩
      · have hz : z = false := by rw [HZ.out]; exact look_end HA.out (by rw [HN.out, HT.out]; omega)
        subst hz
        have c2 : (n : Int) ≤ (a : Int) := by omega
        have c3 : decide ((a : Int) < (n : Int)) = false := decide_eq_false (by omega)
        go_wp2_with fail
        go_quiet (fail)
        go_wp2
        go_ret2
        exact ⟨rfl, (Kep.refl _ _).drewN _⟩
theorem vfind_any : VFind := fun v L key w h _ hl asc _ => by
  obtain ⟨base, cap, rfl⟩ := h.shape
  exact vfind_some base cap L key w h hl asc
end Go.Proofs.Ytlfbiijillpnnaa
