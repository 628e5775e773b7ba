/-
  Package view: checkBodies, checkKeys, Check.
-/
import Derived.Test.YtllkokfaodpfiaaViewOps
import Derived.Test.YtllkokfaodpfiaaViewOnce
import Derived.Test.YtllkokfaodpfiaaBodyCon
import Derived.Deep.QuietTactic
import Derived.BigQuiet
namespace Go.Proofs.Ytllkokfaodpfiaa
open Go.RowKit Go.Lib

theorem cb_full (base : Option Addr) (cap n : Nat) (w : World) (hn : (4096 : Int) < (n : Int)) : Calls Try.prog 28 #[.slice base n cap] w fun e w' => e = .returned (.int .i64 12) ∧ w = w' := by
  go_enter Try.func28, Try.ntmps28
  go_wp2
  go_ret
  exact ⟨rfl, rfl⟩
theorem bodybox {w w1 : World} {x : Bd} {t : TypeId} (g : Grown (w.alloc (.cells #[.int .u32 x.k, .int .i32 x.r, .int .i32 x.ax, .int .i32 x.ay, .int .i32 x.m, .int .i32 x.o, .int .i32 x.px, .int .i32 x.py, .int .i32 x.vx, .int .i32 x.vy] t)) w1) : Kep w.heap.size w w1 := (Kep.made w _).next (Kep.of_grown g)
set_option maxRecDepth 100000 in
set_option maxHeartbeats 1000000 in
theorem cb_some (base : Option Addr) (cap : Nat) (L : List Bd) (w : World) (h : Lst w (.slice base L.length cap) L) (hl : L.length ≤ 4096) : Calls Try.prog 28 #[.slice base L.length cap] w fun e w' => e = .returned (.int .i64 (firstBad L)) ∧ Kep w.heap.size w w' := by
  obtain ⟨n, hn⟩ : ∃ n, n = L.length := ⟨_, rfl⟩
  have HN := Lib.hid hn.symm
  rw [← hn] at h hl ⊢
  have H := Lib.hid h
  have hl' : (n : Int) ≤ 4096 := by omega
  clear hn h hl
  go_enter Try.func28, Try.ntmps28
  go_wp2
  go_loopw [11] (fun i wr => ∃ k : Nat, k ≤ n ∧ i = .int .i64 k ∧ Hid (firstBad L = firstBad (L.drop k) ∧ Kep w.heap.size w wr)) (fun i _ => n - (RowKit.intOf i).toNat)
  case atStart => exact ⟨0, Nat.zero_le _, rfl, Lib.hid ⟨by simp, Kep.refl _ _⟩⟩
  case round =>
    obtain ⟨k, hk, rfl, HK⟩ := hrel
    by_cases hlt : k < n
    · have hx : L[k]? = some (L[k]'(by rw [HN.out]; exact hlt)) := List.getElem?_eq_getElem _
      generalize L[k]'(by rw [HN.out]; exact hlt) = x at hx
      obtain ⟨g1, off1, hb1, hc1⟩ := Lst.at_ (H.out.kep HK.out.2) hx
      subst hb1
      obtain ⟨x0, x1, x2, x3, x4, x5, x6, x7, x8, x9⟩ := old_cells (Kep.refl _ _) hc1
      have HX := Lib.hid (bad_drop hx)
      clear hc1 hx
      obtain ⟨c, hc⟩ : ∃ c, c = chkB x := ⟨_, rfl⟩
      have CK := Lib.hid (chk_of x.k (show chkB x = c from hc.symm))
      have HC := Lib.hid hc.symm
      clear hc
      by_cases c0 : c = 0
      · subst c0
        go_wp2_with ((with_reducible refine (CK.out _).mono ?_); rintro e w2 ⟨rfl, g2⟩; have K2 := Lib.hid (HK.out.2.next (bodybox g2)); clear g2)
        go_roundw
        case rel => exact ⟨k + 1, by omega, by go_num, Lib.hid ⟨by rw [HK.out.1, HX.out, if_neg (fun q => q HC.out)], K2.out⟩⟩
        case measure => simp [RowKit.intOf]; omega
      · have c1 : (c != 0) = true := bne_iff_ne.2 c0
        go_wp2_with ((with_reducible refine (CK.out _).mono ?_); rintro e w2 ⟨rfl, g2⟩; have K2 := Lib.hid (HK.out.2.next (bodybox g2)); clear g2)
        go_ret
        exact ⟨ret_int64 (by rw [HK.out.1, HX.out, HC.out, if_pos c0]), K2.out⟩
    · go_wp2
      go_ret
      exact ⟨ret_int64 (by rw [HK.out.1, List.drop_eq_nil_of_le (by rw [HN.out]; omega)]; rfl), HK.out.2⟩
theorem cb_any (v : Value) (L : List Bd) (w : World) (h : Lst w v L) : Calls Try.prog 28 #[v] w fun e w' => e = .returned (.int .i64 (eachE L)) ∧ Kep w.heap.size w w' := by
  obtain ⟨base, cap, rfl⟩ := h.shape
  unfold eachE
  by_cases c : 4096 < L.length
  · rw [if_pos c]
    exact (cb_full base cap L.length w (by omega)).mono fun e w' ⟨h1, h2⟩ => ⟨h1, h2 ▸ Kep.refl _ _⟩
  · rw [if_neg c]; exact cb_some base cap L w h (by omega)
set_option maxRecDepth 100000 in
set_option maxHeartbeats 1000000 in
theorem ck_some (base : Option Addr) (cap : Nat) (L : List Bd) (w : World) (h : Lst w (.slice base L.length cap) L) (hl : L.length ≤ 1000000) (z : Int) (hz : z = if Asc L then 0 else 10) : Calls Try.prog 29 #[.slice base L.length cap] w fun e w' => e = .returned (.int .i64 z) ∧ Kep w.heap.size w w' := by
  have HZ := Lib.hid hz
  clear hz
  obtain ⟨n, hn⟩ : ∃ n, n = L.length := ⟨_, rfl⟩
  have HN := Lib.hid hn.symm
  rw [← hn] at h hl ⊢
  have H := Lib.hid h
  have hl' : (n : Int) ≤ 1000000 := by omega
  clear hn h hl
  go_enter Try.func29, Try.ntmps29
  go_wp2
  go_loopw [6] (fun i wr => ∃ k : Nat, k ≤ n ∧ i = .int .i64 k ∧ Hid (Ups L (k - 1) ∧ Kep w.heap.size w wr)) (fun i _ => n - (RowKit.intOf i).toNat)
  case atStart => exact ⟨0, Nat.zero_le _, rfl, Lib.hid ⟨fun j x y hj => by omega, Kep.refl _ _⟩⟩
  case round =>
    obtain ⟨k, hk, rfl, HK⟩ := hrel
    by_cases hlt : k < n
    · by_cases h0 : k = 0
      · subst h0
        have d0 : decide ((0 : Int) < ((0 : Nat) : Int)) = false := rfl
        have d1 : decide (((0 : Nat) : Int) > 0) = false := rfl
        go_wp2_with fail
        go_quiet (fail)
        go_wp2_with fail
        go_roundw
        case rel => exact ⟨0 + 1, by omega, by go_num, Lib.hid ⟨fun j a b hj => by omega, HK.out.2.drewN _⟩⟩
        case measure => simp [RowKit.intOf]; omega
      · obtain ⟨j, rfl⟩ : ∃ j, k = j + 1 := ⟨k - 1, by omega⟩
        have hx : L[j]? = some (L[j]'(by rw [HN.out]; omega)) := List.getElem?_eq_getElem _
        generalize L[j]'(by rw [HN.out]; omega) = x at hx
        have hy : L[j + 1]? = some (L[j + 1]'(by rw [HN.out]; exact hlt)) := List.getElem?_eq_getElem _
        generalize L[j + 1]'(by rw [HN.out]; exact hlt) = y at hy
        obtain ⟨g1, off1, hb1, hc1⟩ := Lst.at_ (H.out.kep HK.out.2) hx
        obtain ⟨g2, off2, hb2, hc2⟩ := Lst.at_ (H.out.kep HK.out.2) hy
        subst hb1
        cases hb2
        obtain ⟨k, hkj⟩ : ∃ k : Nat, k = j + 1 := ⟨_, rfl⟩
        have x0 : wr.cell? ⟨g1, off1 + j * 10, none⟩ = some (.int .u32 x.k) := hc1 0 (by omega)
        have y0 : wr.cell? ⟨g1, off1 + (j + 1) * 10, none⟩ = some (.int .u32 y.k) := hc2 0 (by omega)
        have HXY := Lib.hid (And.intro hx hy)
        obtain ⟨xk, hxk⟩ : ∃ z, z = x.k := ⟨_, rfl⟩
        obtain ⟨yk, hyk⟩ : ∃ z, z = y.k := ⟨_, rfl⟩
        rw [← hxk] at x0
        rw [← hyk] at y0
        have HE := Lib.hid (And.intro hxk hyk)
        have HKJ := Lib.hid hkj
        rw [← hkj] at hk hlt y0 HK ⊢
        have r1 : (k : Int) - 1 = (j : Int) := by omega
        have r0 : (0 : Int) < (k : Int) := by omega
        have r2 : decide ((0 : Int) < (k : Int)) = true := decide_eq_true r0
        have r4 : 0 < k := by omega
        have r3 : decide (0 < k) = true := decide_eq_true r4
        have i0 : (0 : Int) ≤ (j : Int) := Int.natCast_nonneg _
        have i1 : (j : Int) < (n : Int) := by omega
        have i2 : (0 : Int) ≤ (k : Int) := Int.natCast_nonneg _
        have i3 : (k : Int) < (n : Int) := by omega
        clear hc1 hc2 hx hy hxk hyk hkj h0
        by_cases c : yk ≤ xk
        · go_wp2_with fail
          go_quiet (fail)
          go_wp2
          go_ret
          refine ⟨ret_int64 ?_, HK.out.2.drewN _⟩
          rw [HZ.out, if_neg (fun a => ?_)]
          have := ups_of_asc a j x y HXY.out.1 HXY.out.2
          rw [← HE.out.1, ← HE.out.2] at this
          omega
        · go_wp2_with fail
          go_quiet (fail)
          go_wp2_with fail
          go_roundw
          case rel => exact ⟨k + 1, by omega, by go_num, Lib.hid ⟨fun i a b hi ha hb => by
              have kj := HKJ.out
              by_cases z : i = j
              · subst z
                have q1 := HXY.out.1
                have q2 := HXY.out.2
                rw [ha] at q1
                rw [hb] at q2
                cases q1
                cases q2
                rw [← HE.out.1, ← HE.out.2]; omega
              · exact HK.out.1 i a b (by omega) ha hb, HK.out.2.drewN _⟩⟩
          case measure => simp [RowKit.intOf]; omega
    · go_wp2
      go_ret
      exact ⟨ret_int64 (by rw [HZ.out, if_pos (asc_of_ups fun j x y hx hy => HK.out.1 j x y (by have := (List.getElem?_eq_some_iff.1 hy).1; rw [HN.out] at this; omega) hx hy)]), HK.out.2⟩
theorem ck_any (v : Value) (L : List Bd) (w : World) (h : Lst w v L) (hl : L.length ≤ 1000000) : Calls Try.prog 29 #[v] w fun e w' => e = .returned (.int .i64 (if Asc L then 0 else 10)) ∧ Kep w.heap.size w w' := by
  obtain ⟨base, cap, rfl⟩ := h.shape
  exact ck_some base cap L w h hl _ rfl
set_option maxRecDepth 100000 in
set_option maxHeartbeats 1000000 in
theorem vcheck_p : VCheck := fun v L w h _ hl => by
  obtain ⟨base, cap, rfl⟩ := h.shape
  have C := Lib.hid (cb_any _ L w h)
  have C2 := Lib.hid (fun w' (g : Kep w.heap.size w w') => ck_any _ L w' (h.kep g) hl)
  unfold vchkE
  generalize L.length = n at *
  generalize eachE L = c at *
  generalize (if Asc L then (0 : Int) else 10) = z at *
  clear h hl
  by_cases c0 : c = 0
  · rw [if_neg (fun q => q c0)]
    subst c0
    go_enter Try.func18, Try.ntmps18
    go_wp2_with (first
      | ((with_reducible refine (C.out).mono ?_); rintro e w2 ⟨rfl, k2⟩; have K2 := Lib.hid k2; clear k2)
      | ((with_reducible refine (C2.out _ K2.out).mono ?_); rintro e w3 ⟨rfl, k3⟩; have K3 := Lib.hid (K2.out.next k3); clear k3))
    go_ret
    exact ⟨rfl, K3.out⟩
  · rw [if_pos c0]
    have c1 : (c != 0) = true := bne_iff_ne.2 c0
    go_enter Try.func18, Try.ntmps18
    go_wp2_with ((with_reducible refine (C.out).mono ?_); rintro e w2 ⟨rfl, k2⟩; have K2 := Lib.hid k2; clear k2)
    go_ret
    exact ⟨rfl, K2.out⟩
end Go.Proofs.Ytllkokfaodpfiaa
