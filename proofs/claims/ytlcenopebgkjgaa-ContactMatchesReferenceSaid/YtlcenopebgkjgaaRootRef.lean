/-
  The reference implementation of package root: what each function returns, for all arguments.
-/
import Derived.Test.YtlcenopebgkjgaaRoot
namespace Go.Proofs.Ytlcenopebgkjgaa
open Go.RowKit Go.Lib

set_option maxRecDepth 100000 in
set_option maxHeartbeats 2000000 in
theorem refisqrt_any (n r : Int) (hr : Hid (IsRoot r n)) (h1 : n < 18446744073709551616) (w : World) :
    Calls Try.prog 42 #[.int .u64 n] w fun e w' => e = .returned (.int .u64 r) ∧ w = w' := by
  go_enter Try.func42, Try.ntmps42
  go_wp2
  go_loop [3, 4] (fun a b => ∃ (lo hi : Int), a = .int .u64 lo ∧ b = .int .u64 hi ∧ 0 ≤ lo ∧ lo ≤ r ∧ r ≤ hi ∧ hi ≤ 4294967295) (fun a b => (RowKit.intOf b - RowKit.intOf a).toNat)
  case atStart =>
    have := hr.out.le_max h1
    have := hr.out.1
    exact ⟨_, _, rfl, rfl, by omega, by omega, by omega, by omega⟩
  case round =>
    obtain ⟨lo, hi, rfl, rfl, hl0, hlr, hrh, hh⟩ := hrel
    by_cases hc : lo < hi
    · obtain ⟨d, hd⟩ : ∃ d, d = lo + hi + 1 := ⟨_, rfl⟩
      obtain ⟨m, hm⟩ : ∃ m, m = d / 2 := ⟨_, rfl⟩
      obtain ⟨s, hs⟩ : ∃ s, s = m * m := ⟨_, rfl⟩
      have hm0 : 1 ≤ m := by omega
      have hm1 : m ≤ 4294967295 := by omega
      have hs0 : 0 ≤ s := by rw [hs]; exact Int.mul_nonneg (by omega) (by omega)
      have hs1 : s < 18446744073709551616 := by
        have := sq_le (show 0 ≤ m by omega) hm1; omega
      have hiff : Hid (s ≤ n ↔ m ≤ r) := by rw [hs]; exact Lib.hid (hr.out.iff (by omega))
      have f1 : lo + hi + 1 = d := hd.symm
      have f2 : d / 2 = m := hm.symm
      have f3 : m * m = s := hs.symm
      have f4 : IntKind.u64.wrap s = s := by rw [IntKind.wrap_u64]; omega
      have f5 : d.tdiv 2 = m := by rw [Int.tdiv_eq_ediv_of_nonneg (by omega), f2]
      have hd0 : 0 ≤ d := by omega
      have hd1 : d < 18446744073709551616 := by omega
      have HH := Lib.hid (And.intro hd (And.intro hm hs))
      clear hd hm hs
      by_cases hle : s ≤ n
      all_goals
        go_wp2
        go_round
        case rel =>
          have y := hiff.out
          obtain ⟨z1, z2, z3⟩ := HH.out
          exact ⟨_, _, rfl, rfl, by omega, by omega, by omega, by omega⟩
        case measure =>
          obtain ⟨z1, z2, z3⟩ := HH.out
          simp [RowKit.intOf]; omega
    · go_wp2
      go_ret
      exact ⟨congrArg (fun x => Ending.returned (.int .u64 x)) (by omega), rfl⟩

end Go.Proofs.Ytlcenopebgkjgaa
