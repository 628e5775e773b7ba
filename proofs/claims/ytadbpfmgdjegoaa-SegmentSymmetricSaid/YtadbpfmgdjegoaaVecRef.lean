/-
  The reference implementation of package vec: each function returns the same as the program's.
-/
import Derived.Test.YtadbpfmgdjegoaaVecLen
import Derived.Test.YtadbpfmgdjegoaaFx
namespace Go.Proofs.Ytadbpfmgdjegoaa
open Go.RowKit Go.Lib

theorem sq_abs (a : Int) : -a * -a = a * a := Int.neg_mul_neg a a

set_option maxHeartbeats 1000000 in
theorem reflsq_any (a b t : Int) (ha : InD a) (hb : InD b) (ht : lsq a b = t) (w : World) :
    Calls Try.prog 25 #[.int .i64 a, .int .i64 b] w fun e w' => e = .returned (.int .u64 t) ∧ w = w' := by
  have m1 := sq_in ha
  have m2 := sq_in hb
  obtain ⟨h1, h2⟩ := ha; obtain ⟨h3, h4⟩ := hb
  unfold lsq at ht
  have s1 := sq_abs a
  have s2 := sq_abs b
  obtain ⟨x, hx⟩ : ∃ x, x = a * a := ⟨_, rfl⟩
  obtain ⟨y, hy⟩ : ∃ y, y = b * b := ⟨_, rfl⟩
  rw [← hx, ← hy] at ht
  rw [← hx] at m1 s1
  rw [← hy] at m2 s2
  have f5 : IntKind.u64.wrap x = x := by rw [IntKind.wrap_u64]; omega
  have f6 : IntKind.u64.wrap y = y := by rw [IntKind.wrap_u64]; omega
  have f7 : IntKind.u64.wrap (x + y) = t := by rw [IntKind.wrap_u64]; omega
  clear ht m1 m2
  by_cases c1 : a < 0
  · by_cases c2 : b < 0
    · obtain ⟨p1, hp1⟩ : ∃ p, p = -a := ⟨_, rfl⟩
      have g1 : 0 ≤ p1 := by omega
      have k1 : p1 ≤ 2181038080 := by omega
      rw [← hp1] at s1
      have n1 : -a = p1 := hp1.symm
      have q1 : IntKind.u64.wrap p1 = p1 := by rw [IntKind.wrap_u64]; omega
      have hppp1 := hp1
      clear hp1 hppp1
      obtain ⟨p2, hp2⟩ : ∃ p, p = -b := ⟨_, rfl⟩
      have g2 : 0 ≤ p2 := by omega
      have k2 : p2 ≤ 2181038080 := by omega
      rw [← hp2] at s2
      have n2 : -b = p2 := hp2.symm
      have q2 : IntKind.u64.wrap p2 = p2 := by rw [IntKind.wrap_u64]; omega
      have hppp2 := hp2
      clear hp2 hppp2
      clear hx hy
      go_enter Try.func25, Try.ntmps25
      go_wp2
      go_ret
      exact ⟨rfl, rfl⟩
    · obtain ⟨p1, hp1⟩ : ∃ p, p = -a := ⟨_, rfl⟩
      have g1 : 0 ≤ p1 := by omega
      have k1 : p1 ≤ 2181038080 := by omega
      rw [← hp1] at s1
      have n1 : -a = p1 := hp1.symm
      have q1 : IntKind.u64.wrap p1 = p1 := by rw [IntKind.wrap_u64]; omega
      have hppp1 := hp1
      clear hp1 hppp1
      have g2 : 0 ≤ b := by omega
      have e2 : b * b = y := hy.symm
      have q2 : IntKind.u64.wrap b = b := by rw [IntKind.wrap_u64]; omega
      clear s2
      clear hx hy
      go_enter Try.func25, Try.ntmps25
      go_wp2
      go_ret
      exact ⟨rfl, rfl⟩
  · by_cases c2 : b < 0
    · have g1 : 0 ≤ a := by omega
      have e1 : a * a = x := hx.symm
      have q1 : IntKind.u64.wrap a = a := by rw [IntKind.wrap_u64]; omega
      clear s1
      obtain ⟨p2, hp2⟩ : ∃ p, p = -b := ⟨_, rfl⟩
      have g2 : 0 ≤ p2 := by omega
      have k2 : p2 ≤ 2181038080 := by omega
      rw [← hp2] at s2
      have n2 : -b = p2 := hp2.symm
      have q2 : IntKind.u64.wrap p2 = p2 := by rw [IntKind.wrap_u64]; omega
      have hppp2 := hp2
      clear hp2 hppp2
      clear hx hy
      go_enter Try.func25, Try.ntmps25
      go_wp2
      go_ret
      exact ⟨rfl, rfl⟩
    · have g1 : 0 ≤ a := by omega
      have e1 : a * a = x := hx.symm
      have q1 : IntKind.u64.wrap a = a := by rw [IntKind.wrap_u64]; omega
      clear s1
      have g2 : 0 ≤ b := by omega
      have e2 : b * b = y := hy.symm
      have q2 : IntKind.u64.wrap b = b := by rw [IntKind.wrap_u64]; omega
      clear s2
      clear hx hy
      go_enter Try.func25, Try.ntmps25
      go_wp2
      go_ret
      exact ⟨rfl, rfl⟩

end Go.Proofs.Ytadbpfmgdjegoaa
