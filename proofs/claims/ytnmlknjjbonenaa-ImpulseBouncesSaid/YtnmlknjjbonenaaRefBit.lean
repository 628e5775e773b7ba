/-
  The reference implementation of package wide: a bit of a number of eight digits.
-/
import Derived.Test.YtnmlknjjbonenaaRefMul
namespace Go.Proofs.Ytnmlknjjbonenaa
open Go.RowKit Go.Lib

theorem halve (z : Int) (m : Nat) : z / 2 ^ m / 2 = z / 2 ^ (m + 1) := by
  rw [Int.pow_succ, Int.ediv_ediv_of_nonneg (Int.le_of_lt (Int.pow_pos (by decide)))]

set_option maxRecDepth 100000 in
set_option maxHeartbeats 2000000 in
theorem bit_walk (z0 z1 z2 z3 z4 z5 z6 z7 zj i j r B : Int) (hj : (j = 0 ∧ zj = z0) ∨ (j = 1 ∧ zj = z1) ∨ (j = 2 ∧ zj = z2) ∨ (j = 3 ∧ zj = z3) ∨ (j = 4 ∧ zj = z4) ∨ (j = 5 ∧ zj = z5) ∨ (j = 6 ∧ zj = z6) ∨ (j = 7 ∧ zj = z7))
    (i1 : i.tdiv 16 = j) (i2 : i / 16 = j) (i3 : i.tmod 16 = r) (i4 : i % 16 = r) (hr0 : 0 ≤ r) (_hr1 : r ≤ 15) (hz : Hid (Dg zj)) (hB : Hid (B = zj / 2 ^ r.toNat % 2)) (w : World) :
    Calls Try.prog 37 #[.agg #[.int .u64 z0, .int .u64 z1, .int .u64 z2, .int .u64 z3, .int .u64 z4, .int .u64 z5, .int .u64 z6, .int .u64 z7], .int .i64 i] w fun e w' => e = .returned (.int .u64 B) ∧ Grown w w' := by
  rcases hj with ⟨rfl, rfl⟩ | ⟨rfl, rfl⟩ | ⟨rfl, rfl⟩ | ⟨rfl, rfl⟩ | ⟨rfl, rfl⟩ | ⟨rfl, rfl⟩ | ⟨rfl, rfl⟩ | ⟨rfl, rfl⟩
  all_goals
    go_enter Try.func37, Try.ntmps37
    go_wp2
    go_loop [5, 6] (fun n k => ∃ (m : Nat) (ni ki : Int), n = .int .u64 ni ∧ k = .int .i64 ki ∧ 0 ≤ ki ∧ ki ≤ r ∧ Hid (ki = m ∧ ni = zj / 2 ^ m ∧ 0 ≤ ni ∧ ni ≤ 65535)) (fun _ k => (r - RowKit.intOf k).toNat)
    case atStart => exact ⟨0, _, _, rfl, rfl, by omega, by omega, Lib.hid ⟨rfl, by simp, hz.out⟩⟩
    case round =>
      obtain ⟨m, ni, ki, rfl, rfl, hk0, hk1, H⟩ := hrel
      obtain ⟨n', hn'⟩ : ∃ n', n' = ni / 2 := ⟨_, rfl⟩
      have hn1 := H.out.2.2.1
      have f1 : ni.tdiv 2 = n' := by rw [Int.tdiv_eq_ediv_of_nonneg hn1, hn']
      have f2 : ni / 2 = n' := hn'.symm
      have HN := Lib.hid hn'
      clear hn'
      by_cases hc : ki < r
      · obtain ⟨k', hk'⟩ : ∃ k', k' = ki + 1 := ⟨_, rfl⟩
        have f4 : wrap64 (ki + 1) = k' := by unfold wrap64; omega
        have f5 : IntKind.u64.wrap n' = n' := by rw [IntKind.wrap_u64]; have := H.out.2.2; have := HN.out; omega
        have HK := Lib.hid hk'
        clear hk'
        go_wp2
        go_round
        case rel =>
          obtain ⟨x1, x2, x3, x4⟩ := H.out
          have y1 := HN.out; have y2 := HK.out
          exact ⟨m + 1, _, _, rfl, rfl, by omega, by omega, Lib.hid ⟨by omega, by rw [y1, x2]; exact halve _ m, by omega, by omega⟩⟩
        case measure => have y2 := HK.out; simp [RowKit.intOf]; omega
      · obtain ⟨B', hB'⟩ : ∃ B', B' = ni % 2 := ⟨_, rfl⟩
        have f6 : ni % 2 = B' := hB'.symm
        have f7 : ni.tmod 2 = B' := by rw [Int.tmod_eq_emod_of_nonneg hn1, f6]
        have HB := Lib.hid hB'
        clear hB' hn1
        go_wp2
        go_ret
        obtain ⟨x1, x2, x3, x4⟩ := H.out
        have e : r.toNat = m := by omega
        have eB : B' = B := by rw [hB.out, e, ← x2, HB.out]
        exact ⟨congrArg (fun x => Ending.returned (.int .u64 x)) eB, by repeat (first | exact Grown.refl _ | apply Grown.drew | apply Grown.alloc)⟩

theorem bit16 (z up : Int) (r : Nat) (hr : r ≤ 15) : (z + 65536 * up) / 2 ^ r % 2 = z / 2 ^ r % 2 := by
  have h : r = 0 ∨ r = 1 ∨ r = 2 ∨ r = 3 ∨ r = 4 ∨ r = 5 ∨ r = 6 ∨ r = 7 ∨ r = 8 ∨ r = 9 ∨ r = 10 ∨ r = 11 ∨ r = 12 ∨ r = 13 ∨ r = 14 ∨ r = 15 := by omega
  rcases h with rfl | rfl | rfl | rfl | rfl | rfl | rfl | rfl | rfl | rfl | rfl | rfl | rfl | rfl | rfl | rfl
  all_goals omega

theorem bit_at (V z up K : Int) (j r : Nat) (hr : r ≤ 15) (hK : K = 2 ^ (16 * j)) (hV : V / K = z + 65536 * up) : V / 2 ^ (16 * j + r) % 2 = z / 2 ^ r % 2 := by
  rw [Int.pow_add, ← Int.ediv_ediv_of_nonneg (Int.le_of_lt (Int.pow_pos (by decide))), ← hK, hV]
  exact bit16 z up r hr

theorem bit_any (V z0 z1 z2 z3 z4 z5 z6 z7 B : Int) (n : Nat) (h8 : Is8 V z0 z1 z2 z3 z4 z5 z6 z7) (hn : n ≤ 127) (hB : B = V / 2 ^ n % 2) (w : World) :
    Calls Try.prog 37 #[.agg #[.int .u64 z0, .int .u64 z1, .int .u64 z2, .int .u64 z3, .int .u64 z4, .int .u64 z5, .int .u64 z6, .int .u64 z7], .int .i64 (n : Int)] w fun e w' => e = .returned (.int .u64 B) ∧ Grown w w' := by
  obtain ⟨j, hj⟩ : ∃ j, j = n / 16 := ⟨_, rfl⟩
  obtain ⟨r, hr⟩ : ∃ r, r = n % 16 := ⟨_, rfl⟩
  have hnj : n = 16 * j + r := by omega
  have hr15 : r ≤ 15 := by omega
  obtain ⟨d0, d1, d2, d3, d4, d5, d6, d7, hv⟩ := h8
  have i1 : (n : Int).tdiv 16 = (j : Int) := by rw [Int.tdiv_eq_ediv_of_nonneg (by omega)]; omega
  have i2 : (n : Int) / 16 = (j : Int) := by omega
  have i3 : (n : Int).tmod 16 = (r : Int) := by rw [Int.tmod_eq_emod_of_nonneg (by omega)]; omega
  have i4 : (n : Int) % 16 = (r : Int) := by omega
  have e0 := d0; have e1 := d1; have e2 := d2; have e3 := d3; have e4 := d4; have e5 := d5; have e6 := d6; have e7 := d7
  unfold Dg at e0 e1 e2 e3 e4 e5 e6 e7
  unfold val8 at hv
  rw [hnj] at hB
  have hjc : j = 0 ∨ j = 1 ∨ j = 2 ∨ j = 3 ∨ j = 4 ∨ j = 5 ∨ j = 6 ∨ j = 7 := by omega
  rcases hjc with rfl | rfl | rfl | rfl | rfl | rfl | rfl | rfl
  · refine bit_walk z0 z1 z2 z3 z4 z5 z6 z7 z0 n _ r B (.inl ⟨rfl, rfl⟩) i1 i2 i3 i4 (by omega) (by omega) (Lib.hid d0) (Lib.hid ?_) w
    rw [hB, Int.toNat_natCast]
    exact bit_at V z0 (z1 + 65536 * z2 + 4294967296 * z3 + 281474976710656 * z4 + 18446744073709551616 * z5 + 1208925819614629174706176 * z6 + 79228162514264337593543950336 * z7) 1 0 r hr15 (by decide) (by omega)
  · refine bit_walk z0 z1 z2 z3 z4 z5 z6 z7 z1 n _ r B (.inr (.inl ⟨rfl, rfl⟩)) i1 i2 i3 i4 (by omega) (by omega) (Lib.hid d1) (Lib.hid ?_) w
    rw [hB, Int.toNat_natCast]
    exact bit_at V z1 (z2 + 65536 * z3 + 4294967296 * z4 + 281474976710656 * z5 + 18446744073709551616 * z6 + 1208925819614629174706176 * z7) 65536 1 r hr15 (by decide) (by omega)
  · refine bit_walk z0 z1 z2 z3 z4 z5 z6 z7 z2 n _ r B (.inr (.inr (.inl ⟨rfl, rfl⟩))) i1 i2 i3 i4 (by omega) (by omega) (Lib.hid d2) (Lib.hid ?_) w
    rw [hB, Int.toNat_natCast]
    exact bit_at V z2 (z3 + 65536 * z4 + 4294967296 * z5 + 281474976710656 * z6 + 18446744073709551616 * z7) 4294967296 2 r hr15 (by decide) (by omega)
  · refine bit_walk z0 z1 z2 z3 z4 z5 z6 z7 z3 n _ r B (.inr (.inr (.inr (.inl ⟨rfl, rfl⟩)))) i1 i2 i3 i4 (by omega) (by omega) (Lib.hid d3) (Lib.hid ?_) w
    rw [hB, Int.toNat_natCast]
    exact bit_at V z3 (z4 + 65536 * z5 + 4294967296 * z6 + 281474976710656 * z7) 281474976710656 3 r hr15 (by decide) (by omega)
  · refine bit_walk z0 z1 z2 z3 z4 z5 z6 z7 z4 n _ r B (.inr (.inr (.inr (.inr (.inl ⟨rfl, rfl⟩))))) i1 i2 i3 i4 (by omega) (by omega) (Lib.hid d4) (Lib.hid ?_) w
    rw [hB, Int.toNat_natCast]
    exact bit_at V z4 (z5 + 65536 * z6 + 4294967296 * z7) 18446744073709551616 4 r hr15 (by decide) (by omega)
  · refine bit_walk z0 z1 z2 z3 z4 z5 z6 z7 z5 n _ r B (.inr (.inr (.inr (.inr (.inr (.inl ⟨rfl, rfl⟩)))))) i1 i2 i3 i4 (by omega) (by omega) (Lib.hid d5) (Lib.hid ?_) w
    rw [hB, Int.toNat_natCast]
    exact bit_at V z5 (z6 + 65536 * z7) 1208925819614629174706176 5 r hr15 (by decide) (by omega)
  · refine bit_walk z0 z1 z2 z3 z4 z5 z6 z7 z6 n _ r B (.inr (.inr (.inr (.inr (.inr (.inr (.inl ⟨rfl, rfl⟩))))))) i1 i2 i3 i4 (by omega) (by omega) (Lib.hid d6) (Lib.hid ?_) w
    rw [hB, Int.toNat_natCast]
    exact bit_at V z6 (z7) 79228162514264337593543950336 6 r hr15 (by decide) (by omega)
  · refine bit_walk z0 z1 z2 z3 z4 z5 z6 z7 z7 n _ r B (.inr (.inr (.inr (.inr (.inr (.inr (.inr (⟨rfl, rfl⟩)))))))) i1 i2 i3 i4 (by omega) (by omega) (Lib.hid d7) (Lib.hid ?_) w
    rw [hB, Int.toNat_natCast]
    exact bit_at V z7 (0) 5192296858534827628530496329220096 7 r hr15 (by decide) (by omega)

end Go.Proofs.Ytnmlknjjbonenaa
