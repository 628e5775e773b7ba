/-
  The reference implementation of package wide: its division, bit by bit.
-/
import Derived.Test.YtnmlknjjbonenaaRefBit
namespace Go.Proofs.Ytnmlknjjbonenaa
open Go.RowKit Go.Lib

/-- What holds when the bits from k on have been taken in. -/
def DivInv (V d : Int) (k : Nat) (q r : Int) (sm : Bool) : Prop := r = V / 2 ^ k % d ∧ q = V / 2 ^ k / d % 18446744073709551616 ∧ sm = decide (V / 2 ^ k / d < 18446744073709551616)

theorem two_bits (V : Int) (k : Nat) : V / 2 ^ k = 2 * (V / 2 ^ (k + 1)) + V / 2 ^ k % 2 := by
  have h : V / 2 ^ (k + 1) = V / 2 ^ k / 2 := (halve V k).symm
  rw [h]
  omega

theorem div_unique {A d Q R : Int} (h : A = d * Q + R) (h0 : 0 ≤ R) (h1 : R < d) : A / d = Q ∧ A % d = R := by
  rw [Int.ediv_emod_unique (by omega)]
  omega

theorem div_step {V d q r : Int} {k : Nat} {sm : Bool} (hV : 0 ≤ V) (hd : 0 < d) (h : DivInv V d (k + 1) q r sm) :
    (0 ≤ r ∧ r < d ∧ 0 ≤ q ∧ q < 18446744073709551616) ∧
    (d ≤ 2 * r + V / 2 ^ k % 2 → DivInv V d k ((2 * q + 1) % 18446744073709551616) (2 * r + V / 2 ^ k % 2 - d) (sm && decide (q < 9223372036854775808))) ∧
    (2 * r + V / 2 ^ k % 2 < d → DivInv V d k (2 * q % 18446744073709551616) (2 * r + V / 2 ^ k % 2) (sm && decide (q < 9223372036854775808))) := by
  obtain ⟨hr, hq, hs⟩ := h
  have hA := two_bits V k
  obtain ⟨A, eA⟩ : ∃ A, A = V / 2 ^ (k + 1) := ⟨_, rfl⟩
  have hA0 : 0 ≤ A := by rw [eA]; exact Int.ediv_nonneg hV (Int.le_of_lt (Int.pow_pos (by decide)))
  obtain ⟨b, eb⟩ : ∃ b, b = V / 2 ^ k % 2 := ⟨_, rfl⟩
  have b0 : 0 ≤ b ∧ b ≤ 1 := by omega
  unfold DivInv
  rw [← eA] at hr hq hs
  rw [← eb, ← eA] at hA
  rw [← eb]
  clear eb eA
  have r0 := Int.emod_nonneg A (show d ≠ 0 by omega)
  have r1 := Int.emod_lt_of_pos A hd
  have hm := Int.mul_ediv_add_emod A d
  obtain ⟨Q, eQ⟩ : ∃ Q, Q = A / d := ⟨_, rfl⟩
  have hQ0 : 0 ≤ Q := by rw [eQ]; exact Int.ediv_nonneg hA0 (by omega)
  rw [← eQ] at hq hs hm
  rw [← hr] at r0 r1 hm
  have hs' : (sm && decide (q < 9223372036854775808)) = decide (Q < 9223372036854775808) := by
    rw [hs, ← Bool.decide_and]
    apply decide_eq_decide.2
    omega
  have m1 : d * (2 * Q + 1) = 2 * (d * Q) + d := by rw [Int.mul_add, Int.mul_left_comm, Int.mul_one]
  have m2 : d * (2 * Q) = 2 * (d * Q) := Int.mul_left_comm _ _ _
  refine ⟨⟨r0, r1, by omega, by omega⟩, ?_, ?_⟩
  · intro ht
    have u := div_unique (A := V / 2 ^ k) (d := d) (Q := 2 * Q + 1) (R := 2 * r + b - d) (by omega) (by omega) (by omega)
    rw [u.1, u.2, hs']
    refine ⟨rfl, by omega, decide_eq_decide.2 (by omega)⟩
  · intro ht
    have u := div_unique (A := V / 2 ^ k) (d := d) (Q := 2 * Q) (R := 2 * r + b) (by omega) (by omega) (by omega)
    rw [u.1, u.2, hs']
    refine ⟨rfl, by omega, decide_eq_decide.2 (by omega)⟩

theorem grown_cell {w w' : World} (h : Grown w w') {b o : Nat} {v : Value} (hb : b < w.heap.size) (hc : w.cell? ⟨b, o, none⟩ = some v) : w'.cell? ⟨b, o, none⟩ = some v := by
  rw [World.keptBut.cell h.1 hb (fun f => f), hc]

/-- A number's eight cells. -/
def Cells8 (w : World) (b : Nat) (z0 z1 z2 z3 z4 z5 z6 z7 : Int) : Prop := b < w.heap.size ∧ w.cell? ⟨b, 0, none⟩ = some (.int .u64 z0) ∧ w.cell? ⟨b, 1, none⟩ = some (.int .u64 z1) ∧ w.cell? ⟨b, 2, none⟩ = some (.int .u64 z2) ∧ w.cell? ⟨b, 3, none⟩ = some (.int .u64 z3) ∧
  w.cell? ⟨b, 4, none⟩ = some (.int .u64 z4) ∧ w.cell? ⟨b, 5, none⟩ = some (.int .u64 z5) ∧ w.cell? ⟨b, 6, none⟩ = some (.int .u64 z6) ∧ w.cell? ⟨b, 7, none⟩ = some (.int .u64 z7)
theorem Cells8.grown {w w' : World} {b : Nat} {z0 z1 z2 z3 z4 z5 z6 z7 : Int} (h : Cells8 w b z0 z1 z2 z3 z4 z5 z6 z7) (g : Grown w w') : Cells8 w' b z0 z1 z2 z3 z4 z5 z6 z7 := by
  obtain ⟨hb, c0, c1, c2, c3, c4, c5, c6, c7⟩ := h
  exact ⟨Nat.lt_of_lt_of_le hb g.2.2, grown_cell g hb c0, grown_cell g hb c1, grown_cell g hb c2, grown_cell g hb c3, grown_cell g hb c4, grown_cell g hb c5, grown_cell g hb c6, grown_cell g hb c7⟩

theorem Is8.bound {V z0 z1 z2 z3 z4 z5 z6 z7 : Int} (h : Is8 V z0 z1 z2 z3 z4 z5 z6 z7) : V < 340282366920938463463374607431768211456 := by
  obtain ⟨d0, d1, d2, d3, d4, d5, d6, d7, hv⟩ := h
  unfold Dg at d0 d1 d2 d3 d4 d5 d6 d7
  unfold val8 at hv
  omega

set_option maxRecDepth 100000 in
set_option maxHeartbeats 4000000 in
theorem divide_any (V z0 z1 z2 z3 z4 z5 z6 z7 d : Int) (h8 : Hid (Is8 V z0 z1 z2 z3 z4 z5 z6 z7)) (hV : 0 ≤ V) (hd0 : 0 < d) (hd1 : d < 18446744073709551616) (w : World) :
    Calls Try.prog 30 #[.agg #[.int .u64 z0, .int .u64 z1, .int .u64 z2, .int .u64 z3, .int .u64 z4, .int .u64 z5, .int .u64 z6, .int .u64 z7], .int .u64 d] w fun e w' =>
      e = .returned (.tuple #[.int .u64 (V / d % 18446744073709551616), .int .u64 (V % d), .bool (decide (V / d < 18446744073709551616))]) ∧ Grown w w' := by
  go_enter Try.func30, Try.ntmps30
  go_wp2
  go_loopg [7, 8, 9, 10] 128 (fun k s7 s8 s9 s10 wr => ∃ (q r i : Int) (sm : Bool), s7 = .int .u64 q ∧ s8 = .int .u64 r ∧ s9 = .bool sm ∧ s10 = .int .i64 i ∧ Hid (i = (k : Int) - 1 ∧ k ≤ 128 ∧ DivInv V d k q r sm ∧ Cells8 wr w.heap.size z0 z1 z2 z3 z4 z5 z6 z7 ∧ Grown w wr))
  case atStart =>
    refine ⟨_, _, _, _, rfl, rfl, rfl, rfl, Lib.hid ⟨by decide, Nat.le_refl _, ?_, ⟨by simp, ?_⟩, (Grown.refl _).alloc _ _⟩⟩
    · have hb := Is8.bound h8.out
      have e : V / 2 ^ 128 = 0 := Int.ediv_eq_zero_of_lt hV (by omega)
      unfold DivInv
      rw [e]
      simp
    · simp [World.cell?_alloc_new]
  case round =>
    obtain ⟨q, r, i, sm, rfl, rfl, rfl, rfl, H⟩ := hrel
    obtain ⟨hi, hk, hinv, hcc, hg⟩ := H.out
    obtain ⟨_, c0, c1, c2, c3, c4, c5, c6, c7⟩ := hcc
    have hcc := H.out.2.2.2.1
    by_cases hc : 0 ≤ i
    · obtain ⟨n, rfl⟩ : ∃ n, gk = n + 1 := ⟨gk - 1, by omega⟩
      have hs := div_step hV hd0 hinv
      obtain ⟨B, hB⟩ : ∃ B, B = V / 2 ^ n % 2 := ⟨_, rfl⟩
      rw [← hB] at hs
      have hb := Lib.hid (fun w => bit_any V z0 z1 z2 z3 z4 z5 z6 z7 B n h8.out (by omega) hB w)
      have hin : i = (n : Int) := by omega
      rw [← hin] at hb
      obtain ⟨⟨r0, r1, q0, q1⟩, hyes, hno⟩ := hs
      have HC := Lib.hid hcc; have HG := Lib.hid hg
      have HI : Hid (wrap64 (i - 1) = (n : Int) - 1 ∧ n ≤ 128) := Lib.hid ⟨by unfold wrap64; omega, by omega⟩
      have hB01 : 0 ≤ B ∧ B ≤ 1 := by omega
      obtain ⟨r2, er2⟩ : ∃ r2, r2 = IntKind.u64.wrap (2 * r) := ⟨_, rfl⟩
      obtain ⟨T, eT⟩ : ∃ T, T = IntKind.u64.wrap (r2 + B) := ⟨_, rfl⟩
      obtain ⟨q2, eq2⟩ : ∃ q2, q2 = IntKind.u64.wrap (2 * q) := ⟨_, rfl⟩
      obtain ⟨r', er'⟩ : ∃ r', r' = IntKind.u64.wrap (T - d) := ⟨_, rfl⟩
      obtain ⟨q', eq'⟩ : ∃ q', q' = IntKind.u64.wrap (q2 + 1) := ⟨_, rfl⟩
      have k1 := er2.symm; have k2 := eT.symm; have k3 := eq2.symm; have k4 := er'.symm; have k5 := eq'.symm
      rw [IntKind.wrap_u64] at er2 eT eq2 er' eq'
      have hy : d ≤ 2 * r + B → DivInv V d n q' r' (sm && decide (q < 9223372036854775808)) := fun h => by
        have e1 : q' = (2 * q + 1) % 18446744073709551616 := by omega
        have e2 : r' = 2 * r + B - d := by omega
        rw [e1, e2]; exact hyes h
      have hn : 2 * r + B < d → DivInv V d n q2 T (sm && decide (q < 9223372036854775808)) := fun h => by
        have e2 : T = 2 * r + B := by omega
        rw [eq2, e2]; exact hno h
      have cs : (9223372036854775808 ≤ r ∧ d ≤ 2 * r + B) ∨ (¬ 9223372036854775808 ≤ r ∧ d ≤ T ∧ d ≤ 2 * r + B) ∨ (¬ 9223372036854775808 ≤ r ∧ ¬ d ≤ T ∧ 2 * r + B < d) := by omega
      clear hyes hno hin hg hinv hi hk hB hB01 er2 eT eq2 er' eq' hcc
      rcases cs with ⟨o, t⟩ | ⟨o, t, t'⟩ | ⟨o, t, t'⟩
      · have hE := hy t
        clear hy hn t
        by_cases qq : 9223372036854775808 ≤ q
        · have HE : Hid (DivInv V d n q' r' false) := Lib.hid (by rwa [decide_eq_false (Int.not_lt.2 qq), Bool.and_false] at hE)
          clear hE
          go_wp2_with ((with_reducible refine (hb.out _).mono ?_); rintro e w1 ⟨rfl, g1⟩)
          go_roundg n
          case measure => omega
          case rel => exact ⟨_, _, _, _, rfl, rfl, rfl, rfl, Lib.hid ⟨HI.out.1, HI.out.2, HE.out, HC.out.grown g1, grown_trans HG.out g1⟩⟩
        · have HE : Hid (DivInv V d n q' r' sm) := Lib.hid (by rwa [decide_eq_true (Int.not_le.1 qq), Bool.and_true] at hE)
          clear hE
          go_wp2_with ((with_reducible refine (hb.out _).mono ?_); rintro e w1 ⟨rfl, g1⟩)
          go_roundg n
          case measure => omega
          case rel => exact ⟨_, _, _, _, rfl, rfl, rfl, rfl, Lib.hid ⟨HI.out.1, HI.out.2, HE.out, HC.out.grown g1, grown_trans HG.out g1⟩⟩
      · have hE := hy t'
        clear hy hn t'
        by_cases qq : 9223372036854775808 ≤ q
        · have HE : Hid (DivInv V d n q' r' false) := Lib.hid (by rwa [decide_eq_false (Int.not_lt.2 qq), Bool.and_false] at hE)
          clear hE
          go_wp2_with ((with_reducible refine (hb.out _).mono ?_); rintro e w1 ⟨rfl, g1⟩)
          go_roundg n
          case measure => omega
          case rel => exact ⟨_, _, _, _, rfl, rfl, rfl, rfl, Lib.hid ⟨HI.out.1, HI.out.2, HE.out, HC.out.grown g1, grown_trans HG.out g1⟩⟩
        · have HE : Hid (DivInv V d n q' r' sm) := Lib.hid (by rwa [decide_eq_true (Int.not_le.1 qq), Bool.and_true] at hE)
          clear hE
          go_wp2_with ((with_reducible refine (hb.out _).mono ?_); rintro e w1 ⟨rfl, g1⟩)
          go_roundg n
          case measure => omega
          case rel => exact ⟨_, _, _, _, rfl, rfl, rfl, rfl, Lib.hid ⟨HI.out.1, HI.out.2, HE.out, HC.out.grown g1, grown_trans HG.out g1⟩⟩
      · have hE := hn t'
        clear hy hn t'
        by_cases qq : 9223372036854775808 ≤ q
        · have HE : Hid (DivInv V d n q2 T false) := Lib.hid (by rwa [decide_eq_false (Int.not_lt.2 qq), Bool.and_false] at hE)
          clear hE
          go_wp2_with ((with_reducible refine (hb.out _).mono ?_); rintro e w1 ⟨rfl, g1⟩)
          go_roundg n
          case measure => omega
          case rel => exact ⟨_, _, _, _, rfl, rfl, rfl, rfl, Lib.hid ⟨HI.out.1, HI.out.2, HE.out, HC.out.grown g1, grown_trans HG.out g1⟩⟩
        · have HE : Hid (DivInv V d n q2 T sm) := Lib.hid (by rwa [decide_eq_true (Int.not_le.1 qq), Bool.and_true] at hE)
          clear hE
          go_wp2_with ((with_reducible refine (hb.out _).mono ?_); rintro e w1 ⟨rfl, g1⟩)
          go_roundg n
          case measure => omega
          case rel => exact ⟨_, _, _, _, rfl, rfl, rfl, rfl, Lib.hid ⟨HI.out.1, HI.out.2, HE.out, HC.out.grown g1, grown_trans HG.out g1⟩⟩
    · have hk0 : gk = 0 := by omega
      subst hk0
      obtain ⟨hr, hq, hs⟩ := hinv
      rw [Int.pow_zero, Int.ediv_one] at hr hq hs
      have HF := Lib.hid (And.intro hr (And.intro hq (And.intro hs hg)))
      clear hr hq hs hg hi hk hcc
      go_wp2
      go_ret3
      obtain ⟨hr, hq, hs, hg⟩ := HF.out
      exact ⟨by rw [hr, hq, hs]; rfl, hg⟩
end Go.Proofs.Ytnmlknjjbonenaa
