/-
  Package root: what each function returns, for all arguments, by contracts on whole numbers.
-/
import Derived.Test.YtlcenopebgkjgaaRootArith
import Derived.WalkKit
import Derived.Lib.EndianBits
import Derived.Lib.Walk
import Derived.Lib.Hide
import Derived.Lib.Small
import Derived.Laws.Bits64b
namespace Go.Proofs.Ytlcenopebgkjgaa
open Go.RowKit Go.Lib

theorem or_join (x y : Int) (e : Nat) (hx0 : 0 ≤ x) (hx : x % 2 ^ e = 0) (hx1 : x < 18446744073709551616) (hy0 : 0 ≤ y) (hy : y < 2 ^ e) (hy1 : y < 18446744073709551616) : bits .or .u64 x y = x + y :=
  bits_join .u64 64 (by decide) wraps_u64 e x y hx0 hx (by omega) hy0 hy (by omega)

set_option maxRecDepth 100000 in
set_option maxHeartbeats 2000000 in
theorem isqrt_any (n r : Int) (hr : Hid (IsRoot r n)) (h1 : n < 18446744073709551616) (w : World) :
    Calls Try.prog 36 #[.int .u64 n] w fun e w' => e = .returned (.int .u64 r) ∧ w = w' := by
  go_enter Try.func36, Try.ntmps36
  go_wp2
  go_loop [3, 4, 6] (fun a m i => ∃ (e : Nat) (ai mi ki q : Int), a = .int .u64 ai ∧ m = .int .u64 mi ∧ i = .int .i64 ki ∧ 0 ≤ ki ∧ ki ≤ 32 ∧ 0 ≤ ai ∧ 0 ≤ mi ∧ Hid (ki + e = 32 ∧ mi = 2 ^ e / 2 ∧ ai = 2 ^ e * q ∧ ai ≤ r ∧ r < ai + 2 ^ e ∧ ai + 2 ^ e ≤ 4294967296)) (fun _ _ i => (32 - RowKit.intOf i).toNat)
  case atStart =>
    have := hr.out.le_max h1
    have := hr.out.1
    exact ⟨32, _, _, _, 0, rfl, rfl, rfl, by omega, by omega, by omega, by omega, Lib.hid ⟨by omega, by omega, by omega, by omega, by omega, by omega⟩⟩
  case round =>
    obtain ⟨e, ai, mi, ki, q, rfl, rfl, rfl, hk0, hk1, ha0, hm0, H⟩ := hrel
    by_cases hc : ki < 32
    · have hrm := hr.out.le_max h1
      obtain ⟨t, ht⟩ : ∃ t, t = ai + mi := ⟨_, rfl⟩
      obtain ⟨s, hs⟩ : ∃ s, s = t * t := ⟨_, rfl⟩
      obtain ⟨m', hm'⟩ : ∃ m', m' = mi / 2 := ⟨_, rfl⟩
      obtain ⟨k', hk'⟩ : ∃ k', k' = ki + 1 := ⟨_, rfl⟩
      obtain ⟨E, rfl⟩ : ∃ E, e = E + 1 := ⟨e - 1, by have := H.out.1; omega⟩
      have hP : (2 : Int) ^ (E + 1) = 2 * 2 ^ E := by rw [Int.pow_succ]; omega
      have hPp : (1 : Int) ≤ 2 ^ E := Int.pow_pos (by decide)
      have hP31 : (2 : Int) ^ E ≤ 2147483648 := by
        have hE : E ≤ 31 := by have := H.out.1; omega
        have h2 : 2 ^ E ≤ 2 ^ 31 := Nat.pow_le_pow_right (n := 2) (by decide) hE
        have h3 : ((2 ^ E : Nat) : Int) ≤ ((2 ^ 31 : Nat) : Int) := Int.ofNat_le.mpr h2
        rw [Int.natCast_pow] at h3
        exact h3
      obtain ⟨P, hPn⟩ : ∃ P : Int, P = 2 ^ E := ⟨_, rfl⟩
      have hmi : mi = P := by have := H.out.2.1; omega
      have f1 : bits .or .u64 ai mi = t := by
        obtain ⟨x1, x2, x3, x4, x5, x6⟩ := H.out
        rw [ht]
        exact or_join ai mi (E + 1) ha0 (by rw [x3]; exact Int.mul_emod_right ..) (by omega) hm0 (by omega) (by omega)
      have ht0 : 0 ≤ t := by omega
      have ht1 : t < 4294967296 := by
        obtain ⟨x1, x2, x3, x4, x5, x6⟩ := H.out
        omega
      have hs0 : 0 ≤ s := by rw [hs]; exact Int.mul_nonneg ht0 ht0
      have hs1 : s < 18446744073709551616 := by
        have := sq_le ht0 (show t ≤ 4294967295 by omega); omega
      have hiff : Hid (s ≤ n ↔ t ≤ r) := by rw [hs]; exact Lib.hid (hr.out.iff ht0)
      have f2 : t * t = s := hs.symm
      have f3 : IntKind.u64.wrap s = s := by rw [IntKind.wrap_u64]; omega
      have f4 : mi / 2 = m' := hm'.symm
      have f5 : wrap64 (ki + 1) = k' := by unfold wrap64; omega
      have hm'0 : 0 ≤ m' := by omega
      have HH := Lib.hid (And.intro ht (And.intro hm' (And.intro hk' (And.intro hP (And.intro hPn hmi)))))
      clear ht hm' hk' hP hPn hs hmi hPp hP31 hrm
      by_cases hle : s ≤ n
      all_goals
        go_wp2
        go_round
        case rel =>
          obtain ⟨x1, x2, x3, x4, x5, x6⟩ := H.out
          obtain ⟨y1, y2, y3, y4, y5, y6⟩ := HH.out
          have y7 := hiff.out
          first
          | exact ⟨E, _, _, _, 2 * q + 1, rfl, rfl, rfl, by omega, by omega, by omega, by omega, Lib.hid ⟨by omega, by omega, by rw [y1, y6, y5, x3, y4, Int.mul_add, ← Int.mul_assoc, Int.mul_comm (2 ^ E) 2, Int.mul_one], by omega, by omega, by omega⟩⟩
          | exact ⟨E, _, _, _, 2 * q, rfl, rfl, rfl, by omega, by omega, by omega, by omega, Lib.hid ⟨by omega, by omega, by rw [x3, y4, ← Int.mul_assoc, Int.mul_comm (2 ^ E) 2], by omega, by omega, by omega⟩⟩
        case measure => have := HH.out.2.2.1; simp [RowKit.intOf]; omega
    · go_wp2
      go_ret
      obtain ⟨x1, x2, x3, x4, x5, x6⟩ := H.out
      have e0 : e = 0 := by omega
      subst e0
      exact ⟨congrArg (fun x => Ending.returned (.int .u64 x)) (by omega), rfl⟩

end Go.Proofs.Ytlcenopebgkjgaa
