/-
  The reference implementation of package wide: digits and product.
-/
import Derived.Test.YtnmlknjjbonenaaWideShift
import Derived.Test.YtnmlknjjbonenaaGrown
import Derived.OpenShut
import Derived.LoopN
import Derived.Deep.QuietTactic
import Derived.BigQuiet
namespace Go.Proofs.Ytnmlknjjbonenaa
open Go.RowKit Go.Lib

/-- A digit. -/
def Dg (x : Int) : Prop := 0 ≤ x ∧ x ≤ 65535

/-- A number and what is left of it without its last digit: in the spellings of the walk. -/
def Cut (m x m' : Int) : Prop := m.tmod 65536 = x ∧ m % 65536 = x ∧ m.tdiv 65536 = m' ∧ m / 65536 = m' ∧ IntKind.u64.wrap m' = m' ∧ 0 ≤ m ∧ 0 ≤ m'
theorem cut_of {m x m' : Int} (h0 : 0 ≤ m) (h1 : m < 18446744073709551616) (hx : x = m % 65536) (hm : m' = m / 65536) : Cut m x m' := by
  refine ⟨?_, hx.symm, ?_, hm.symm, ?_, h0, by omega⟩
  · rw [Int.tmod_eq_emod_of_nonneg h0, hx]
  · rw [Int.tdiv_eq_ediv_of_nonneg h0, hm]
  · rw [IntKind.wrap_u64]; omega

set_option maxRecDepth 100000 in
set_option maxHeartbeats 2000000 in
theorem digits_walk (a A m x0 m1 x1 m2 x2 m3 x3 m4 : Int) (ha : (a < 0 ∧ IntKind.u64.wrap a = A ∧ IntKind.u64.wrap (-A) = m) ∨ (¬ a < 0 ∧ IntKind.u64.wrap a = m))
    (h0 : Cut m x0 m1) (h1 : Cut m1 x1 m2) (h2 : Cut m2 x2 m3) (h3 : Cut m3 x3 m4) (w : World) :
    Calls Try.prog 38 #[.int .i64 a] w fun e w' => e = .returned (.agg #[.int .u64 x0, .int .u64 x1, .int .u64 x2, .int .u64 x3, .int .u64 0, .int .u64 0, .int .u64 0, .int .u64 0]) ∧ w' = (w.alloc (.cells #[.int .u64 x0, .int .u64 x1, .int .u64 x2, .int .u64 x3, .int .u64 0, .int .u64 0, .int .u64 0, .int .u64 0] 64)).alloc (.cells #[.int .u64 x0, .int .u64 x1, .int .u64 x2, .int .u64 x3, .int .u64 0, .int .u64 0, .int .u64 0, .int .u64 0] 64) := by
  obtain ⟨p1, p2, p3, p4, p5, p6, p7⟩ := h0
  obtain ⟨q1, q2, q3, q4, q5, q6, q7⟩ := h1
  obtain ⟨r1, r2, r3, r4, r5, r6, r7⟩ := h2
  obtain ⟨s1, s2, s3, s4, s5, s6, s7⟩ := h3
  rcases ha with ⟨c, e1, e2⟩ | ⟨c, e1⟩
  all_goals
    go_enter Try.func38, Try.ntmps38
    go_wp2
    refine wp_loop_rounds 5 ?_
    rw [rounds_succ]; go_wp2
    rw [rounds_succ]; go_wp2
    rw [rounds_succ]; go_wp2
    rw [rounds_succ]; go_wp2
    rw [rounds_succ]; go_wp2
    exact bodyPost_ret (v := .agg #[.int .u64 x0, .int .u64 x1, .int .u64 x2, .int .u64 x3, .int .u64 0, .int .u64 0, .int .u64 0, .int .u64 0]) (by simp [results, Try.results38, go_sem]) rfl ⟨rfl, rfl⟩

/-- The digits of a's magnitude, as the reference has them. -/
abbrev Digs (a x0 x1 x2 x3 : Int) : Prop := ∀ w, Calls Try.prog 38 #[.int .i64 a] w fun e w' => e = .returned (.agg #[.int .u64 x0, .int .u64 x1, .int .u64 x2, .int .u64 x3, .int .u64 0, .int .u64 0, .int .u64 0, .int .u64 0]) ∧ w' = (w.alloc (.cells #[.int .u64 x0, .int .u64 x1, .int .u64 x2, .int .u64 x3, .int .u64 0, .int .u64 0, .int .u64 0, .int .u64 0] 64)).alloc (.cells #[.int .u64 x0, .int .u64 x1, .int .u64 x2, .int .u64 x3, .int .u64 0, .int .u64 0, .int .u64 0, .int .u64 0] 64)

theorem digits_any (a : Int) (ha : I64 a) : ∃ x0 x1 x2 x3, Dg x0 ∧ Dg x1 ∧ Dg x2 ∧ Dg x3 ∧ x0 + 65536 * x1 + 4294967296 * x2 + 281474976710656 * x3 = mag a ∧ Digs a x0 x1 x2 x3 := by
  have hm := ha.mag0
  obtain ⟨m, hM⟩ : ∃ m, m = mag a := ⟨_, rfl⟩
  rw [← hM] at hm ⊢
  obtain ⟨m1, h1⟩ : ∃ m1, m1 = m / 65536 := ⟨_, rfl⟩
  obtain ⟨m2, h2⟩ : ∃ m2, m2 = m1 / 65536 := ⟨_, rfl⟩
  obtain ⟨m3, h3⟩ : ∃ m3, m3 = m2 / 65536 := ⟨_, rfl⟩
  refine ⟨m % 65536, m1 % 65536, m2 % 65536, m3 % 65536, ⟨by omega, by omega⟩, ⟨by omega, by omega⟩, ⟨by omega, by omega⟩, ⟨by omega, by omega⟩, by omega, fun w => ?_⟩
  refine digits_walk a (IntKind.u64.wrap a) m _ m1 _ m2 _ m3 _ _ ?_ (cut_of (by omega) (by omega) rfl h1) (cut_of (by omega) (by omega) rfl h2) (cut_of (by omega) (by omega) rfl h3) (cut_of (by omega) (by omega) rfl rfl) w
  obtain ⟨i1, i2⟩ := ha
  unfold mag at hM
  by_cases c : a < 0
  · rw [if_pos c] at hM
    left
    refine ⟨c, rfl, ?_⟩
    simp only [IntKind.wrap_u64]
    omega
  · rw [if_neg c] at hM
    right
    refine ⟨c, ?_⟩
    rw [IntKind.wrap_u64]
    omega
end Go.Proofs.Ytnmlknjjbonenaa
