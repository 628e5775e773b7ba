import Derived.Test.YtlabeelbbkbkaaaProg
import Derived.WalkKit
import Derived.Lib.Mul64
import Derived.Laws.Bits64b
import Derived.Laws.Externs
import Derived.Lib.Strings
import Derived.Lib.Slices
import Derived.Lib.Small
import Derived.Lib.Walk
import Derived.Lib.BitFns
import Derived.Deep.QuietTactic
import Derived.BigQuiet
import Derived.RowKit3
import Derived.Lib.Hide
import Derived.Deep.DeepCutAuto
import Derived.Deep.CutRange
import Derived.Deep.CutBlock
import Derived.Deep.RegionWith
import Derived.OpenShut
import Derived.Deep.RegionHeld3
import Derived.Test.YtlabeelbbkbkaaaRows
import Derived.ProofKit
import Derived.ChangeSame
import Derived.Lib.SmallJoins

/-! J00DivArith: DivArith, Wide, MulDiv, Fx, Grown, Kep, BodyRow, Bodies. -/

section
/-
  Plain arithmetic of a division of two words by one, digit by digit (each digit has 32 bits): no program in sight.
-/

namespace Go.Proofs.Ytlabeelbbkbkaaa.DivA

theorem lin1 (u d P R r : Nat) (hq : P + r = u) (h : u * 4294967296 + d < P * 4294967296 + R) : r * 4294967296 + d < R := by
  simp only [Nat.mul_comm _ 4294967296] at *
  omega

/-- A digit's head: the guess is too great exactly if the test of the loop says so. -/
theorem head (u d a b q r : Nat) (hu : u < a * 4294967296 + b) (hd : d < 4294967296) (hq : q * a + r = u) :
    (u * 4294967296 + d) / (a * 4294967296 + b) < q ↔ (4294967296 ≤ q ∨ r * 4294967296 + d < q * b) := by
  have hy : 0 < a * 4294967296 + b := by omega
  rw [Nat.div_lt_iff_lt_mul hy, Nat.mul_add, ← Nat.mul_assoc]
  obtain ⟨P, hP⟩ : ∃ P, q * a = P := ⟨_, rfl⟩
  obtain ⟨R, hR⟩ : ∃ R, q * b = R := ⟨_, rfl⟩
  rw [hP] at hq
  rw [hP, hR]
  constructor
  · intro h; right; exact lin1 _ _ _ _ _ hq h
  · rintro (h | h)
    · have h1 : 4294967296 * a ≤ P := by rw [← hP]; exact Nat.mul_le_mul_right a h
      have h2 : 4294967296 * b ≤ R := by rw [← hR]; exact Nat.mul_le_mul_right b h
      simp only [Nat.mul_comm _ 4294967296] at *
      omega
    · simp only [Nat.mul_comm _ 4294967296] at *
      omega

/-- Behind a step: where the rest has left the digit's range, the guess is no longer too great. -/
theorem out (u d a b q r : Nat) (hb : b < 4294967296) (hu : u < a * 4294967296 + b) (hq : q * a + r = u) (hr : 4294967296 ≤ r) :
    ¬ (u * 4294967296 + d) / (a * 4294967296 + b) < q := by
  have hy : 0 < a * 4294967296 + b := by omega
  rw [Nat.div_lt_iff_lt_mul hy, Nat.mul_add, ← Nat.mul_assoc]
  have hq' : q < 4294967296 := by
    apply Nat.lt_of_not_le
    intro h
    have h1 : 4294967296 * a ≤ q * a := Nat.mul_le_mul_right a h
    omega
  have h2 : q * b ≤ 4294967295 * b := Nat.mul_le_mul_right b (by omega)
  omega

/-- The first guess is not too small. -/
theorem guess (u d a b : Nat) (ha : 0 < a) (hd : d < 4294967296) : (u * 4294967296 + d) / (a * 4294967296 + b) ≤ u / a := by
  rw [← Nat.lt_succ_iff, Nat.div_lt_iff_lt_mul (by omega)]
  have h := Nat.lt_mul_div_succ u ha
  have e : (u / a).succ * (a * 4294967296 + b) = a * (u / a + 1) * 4294967296 + (u / a).succ * b := by
    rw [Nat.mul_add, ← Nat.mul_assoc, Nat.mul_comm a]
  rw [e]
  omega

/-- Two digits after each other are the quotient and the rest of both. -/
theorem two (M K l Y : Nat) (hY : 0 < Y) : M / Y * K + (M % Y * K + l) / Y = (M * K + l) / Y ∧ (M % Y * K + l) % Y = (M * K + l) % Y := by
  have e : M * K + l = (M % Y * K + l) + Y * (M / Y * K) := by
    rw [← Nat.mul_assoc]
    conv => lhs; rw [← Nat.div_add_mod M Y]
    rw [Nat.add_mul, Nat.mul_assoc]; omega
  rw [e, Nat.add_mul_div_left _ _ hY, Nat.add_mul_mod_self_left]
  exact ⟨Nat.add_comm _ _, rfl⟩

/-- The dividend, moved up by the divisor's leading zeros. -/
theorem moved (hi lo s : Nat) (hs : s ≤ 64) :
    (hi * 2 ^ s + lo / 2 ^ (64 - s)) * 18446744073709551616 + lo * 2 ^ s % 18446744073709551616 = (hi * 18446744073709551616 + lo) * 2 ^ s := by
  have e : (18446744073709551616 : Nat) = 2 ^ (64 - s) * 2 ^ s := by rw [← Nat.pow_add, Nat.sub_add_cancel hs]
  have e1 : lo * 2 ^ s / 18446744073709551616 = lo / 2 ^ (64 - s) := by
    conv => lhs; rw [e]
    exact Nat.mul_div_mul_right _ _ (Nat.two_pow_pos s)
  have e2 := Nat.div_add_mod (lo * 2 ^ s) 18446744073709551616
  rw [e1] at e2
  rw [Nat.add_mul (hi * 18446744073709551616) lo, Nat.mul_right_comm hi]
  omega

theorem below (hi lo y s : Nat) (hs : s ≤ 64) (hlo : lo < 18446744073709551616) (hy : hi < y) : hi * 2 ^ s + lo / 2 ^ (64 - s) < y * 2 ^ s := by
  have m := moved hi lo s hs
  have h1 : (hi * 18446744073709551616 + lo) * 2 ^ s < (y * 18446744073709551616) * 2 ^ s := Nat.mul_lt_mul_of_pos_right (by omega) (Nat.two_pow_pos s)
  rw [Nat.mul_right_comm] at h1
  omega

/-- What the two digits give is the quotient and the rest of the whole. -/
theorem whole (hi lo y s u l1 l0 Y q1 q0 r : Nat) (hs : s ≤ 64) (hy : 0 < y)
    (hu : u = hi * 2 ^ s + lo / 2 ^ (64 - s)) (hl : l1 * 4294967296 + l0 = lo * 2 ^ s % 18446744073709551616) (hY : Y = y * 2 ^ s)
    (h1 : q1 = (u * 4294967296 + l1) / Y) (h0 : q0 = ((u * 4294967296 + l1) % Y * 4294967296 + l0) / Y) (hr : r = ((u * 4294967296 + l1) % Y * 4294967296 + l0) % Y) :
    q1 * 4294967296 + q0 = (hi * 18446744073709551616 + lo) / y ∧ r / 2 ^ s = (hi * 18446744073709551616 + lo) % y := by
  have hY0 : 0 < Y := by rw [hY]; exact Nat.mul_pos hy (Nat.two_pow_pos s)
  have t := two (u * 4294967296 + l1) 4294967296 l0 Y hY0
  have m := moved hi lo s hs
  have e : (u * 4294967296 + l1) * 4294967296 + l0 = (hi * 18446744073709551616 + lo) * 2 ^ s := by
    rw [← m, ← hu, ← hl]
    simp only [Nat.mul_comm _ 4294967296, Nat.mul_comm _ 18446744073709551616] at *
    omega
  rw [← h1, ← h0, ← hr, e, hY, Nat.mul_div_mul_right _ _ (Nat.two_pow_pos s), Nat.mul_mod_mul_right] at t
  refine ⟨t.1, ?_⟩
  rw [t.2]
  exact Nat.mul_div_cancel _ (Nat.two_pow_pos s)

end Go.Proofs.Ytlabeelbbkbkaaa.DivA
end

section
/-
  Package wide: magnitude, the negation of two words, and the quotient of magnitudes, by contracts on whole numbers.
-/
namespace Go.Proofs.Ytlabeelbbkbkaaa
open Go.RowKit Go.Lib

/-- A number of 64 bits with a sign. -/
def I64 (v : Int) : Prop := -9223372036854775808 ≤ v ∧ v < 9223372036854775808
instance (v : Int) : Decidable (I64 v) := inferInstanceAs (Decidable (_ ∧ _))
/-- The value that is returned for v: v where it is in range, 0 otherwise; and its error. -/
def rv (v : Int) : Int := if I64 v then v else 0
def re (v : Int) : Int := if I64 v then 0 else 3
/-- The magnitude, and the quotient of magnitudes with a sign, rounded down. -/
def mag (a : Int) : Int := if a < 0 then -a else a
def qs (P c : Int) (neg : Bool) : Int := if neg then -((P + c - 1) / c) else P / c

theorem rv_in {v : Int} (h : I64 v) : rv v = v := if_pos h
theorem re_in {v : Int} (h : I64 v) : re v = 0 := if_pos h
end Go.Proofs.Ytlabeelbbkbkaaa
end

section
/-
  Package wide: what MulDiv returns, for all arguments: the floor of the exact quotient where it is in range, and the error otherwise.
-/
namespace Go.Proofs.Ytlabeelbbkbkaaa
open Go.RowKit Go.Lib

theorem I64.mag0 {a : Int} (h : I64 a) : 0 ≤ mag a ∧ mag a ≤ 9223372036854775808 := by
  unfold mag; obtain ⟨h1, h2⟩ := h; split <;> omega
theorem mag_mul (a b : Int) : mag a * mag b = if (decide (a < 0) != decide (b < 0)) then -(a * b) else a * b := by
  unfold mag
  by_cases h1 : a < 0 <;> by_cases h2 : b < 0 <;> simp [h1, h2, Int.neg_mul, Int.mul_neg]

/-- The floor of n by c. -/
def fl (n c : Int) : Int := if c < 0 then (-n) / (-c) else n / c
/-- What MulDiv and MulShift return. -/
def mdv (a b c : Int) : Int := if c = 0 then 0 else rv (fl (a * b) c)
def mde (a b c : Int) : Int := if c = 0 then 2 else re (fl (a * b) c)
def msv (a b n : Int) : Int := if n < 0 ∨ 63 < n then 0 else rv (a * b / 2 ^ n.toNat)
def mse (a b n : Int) : Int := if n < 0 ∨ 63 < n then 1 else re (a * b / 2 ^ n.toNat)

theorem ceil_neg (P c : Int) (hc : 0 < c) : -((P + c - 1) / c) = (-P) / c := by
  apply Eq.symm
  rw [Int.ediv_eq_iff_of_pos hc]
  have h := Int.ediv_mul_add_emod (P + c - 1) c
  have h1 := Int.emod_nonneg (P + c - 1) (show c ≠ 0 by omega)
  have h2 := Int.emod_lt_of_pos (P + c - 1) hc
  rw [Int.neg_mul]
  omega

/-- The quotient of magnitudes with the sign is the floor of the quotient. -/
theorem qs_fl (a b c : Int) (hc : c ≠ 0) : qs (mag a * mag b) (mag c) ((decide (a < 0) != decide (b < 0)) != decide (c < 0)) = fl (a * b) c := by
  have hm := mag_mul a b
  obtain ⟨P, hP⟩ : ∃ P, P = mag a * mag b := ⟨_, rfl⟩
  rw [← hP] at hm ⊢
  obtain ⟨s, hs⟩ : ∃ s : Bool, s = (decide (a < 0) != decide (b < 0)) := ⟨_, rfl⟩
  rw [← hs] at hm ⊢
  clear hs hP
  unfold fl mag
  by_cases h : c < 0
  · rw [if_pos h, if_pos h]
    cases s
    · have e : P = a * b := by simpa using hm
      rw [← e]
      simp only [h, decide_true, Bool.false_bne, qs, if_true]
      exact ceil_neg P (-c) (by omega)
    · have e : P = -(a * b) := by simpa using hm
      rw [← e]
      simp [h, qs]
  · rw [if_neg h, if_neg h]
    cases s
    · have e : P = a * b := by simpa using hm
      rw [← e]
      simp [h, qs]
    · have e : P = -(a * b) := by simpa using hm
      have e2 : a * b = -P := by omega
      rw [e2]
      simp only [h, decide_false, Bool.bne_false, qs, if_true]
      exact ceil_neg P c (by omega)

theorem qs_shift (a b d : Int) (hd : 0 < d) : qs (mag a * mag b) d (decide (a < 0) != decide (b < 0)) = a * b / d := by
  have h := qs_fl a b d (by omega)
  have h1 : ¬ d < 0 := by omega
  have e : mag d = d := by unfold mag; rw [if_neg h1]
  rw [e] at h
  simpa [h1, fl] using h

end Go.Proofs.Ytlabeelbbkbkaaa
end

section
/-
  Package fx: what each function returns, for all arguments, by contracts on whole numbers.
-/
namespace Go.Proofs.Ytlabeelbbkbkaaa
open Go.RowKit Go.Lib

/-- A number of 32 bits with a sign. -/
def I32 (v : Int) : Prop := -2147483648 ≤ v ∧ v < 2147483648
/-- The nearest number of 32 bits. -/
def sat (n : Int) : Int := max (-2147483648) (min n 2147483647)
/-- The nearest number from -l to l. -/
def lim (n l : Int) : Int := max (-l) (min n l)

theorem I32.i64 {n : Int} (h : I32 n) : I64 n := by obtain ⟨h1, h2⟩ := h; exact ⟨by omega, by omega⟩

theorem limit_any (n l : Int) (h : I64 n) (h0 : 0 ≤ l) (h3 : l < 9223372036854775808) (w : World) :
    Calls Try.prog 35 #[.int .i64 n, .int .i64 l] w fun e w' => e = .returned (.tuple #[.int .i64 (lim n l), .bool (lim n l != n)]) ∧ w = w' := by
  obtain ⟨h1, h2⟩ := h
  go_enter Try.func35, Try.ntmps35
  go_wp2
  go_ret2
  exact ⟨rfl, rfl⟩

end Go.Proofs.Ytlabeelbbkbkaaa
end

section
/-
  Worlds that grow, and ranges of numbers.
-/
namespace Go.Proofs.Ytlabeelbbkbkaaa
open Go.RowKit Go.Lib

theorem grown_trans {a b c : World} (h1 : Grown a b) (h2 : Grown b c) : Grown a c :=
  ⟨World.keptBut_trans h1.1 h2.1, fun a => (h2.2.1 a).trans (h1.2.1 a), Nat.le_trans h1.2.2 h2.2.2⟩
theorem gcell {W w1 : World} (g : Grown W w1) : (∀ b o, b < W.heap.size → w1.cell? ⟨b, o, none⟩ = W.cell? ⟨b, o, none⟩) ∧ (∀ b o, w1.frozen? ⟨b, o, none⟩ = W.frozen? ⟨b, o, none⟩) ∧ W.heap.size ≤ w1.heap.size :=
  ⟨fun _ _ h => g.1.cell h (fun x => x), fun b o => g.2.1 ⟨b, o, none⟩, g.2.2⟩
theorem kept_cell {W w1 : World} (g : Grown W w1) {b o : Nat} {v : Value} (h : W.cell? ⟨b, o, none⟩ = some v) : w1.cell? ⟨b, o, none⟩ = some v := by
  rw [(gcell g).1 b o (World.block_lt_of_cell? _ _ h)]; exact h
end Go.Proofs.Ytlabeelbbkbkaaa
end

section
/-
  What a call keeps: the blocks below B are as they were (no word on the tape, none on what new blocks are).
-/
namespace Go.Proofs.Ytlabeelbbkbkaaa
open Go.RowKit

structure Kep (B : Nat) (w w' : World) : Prop where
  os : w'.os = w.os
  output : w'.output = w.output
  size : w.heap.size ≤ w'.heap.size
  block : ∀ k, k < B → w'.heap[k]? = w.heap[k]?

theorem Kep.refl (B : Nat) (w : World) : Kep B w w := ⟨rfl, rfl, Nat.le_refl _, fun _ _ => rfl⟩
theorem Kep.trans {B : Nat} {a b c : World} (h : Kep B a b) (k : Kep B b c) : Kep B a c := ⟨k.os.trans h.os, k.output.trans h.output, Nat.le_trans h.size k.size, fun i hi => (k.block i hi).trans (h.block i hi)⟩
theorem Kep.mono {B B' : Nat} {w w' : World} (h : Kep B w w') (hB : B' ≤ B) : Kep B' w w' := ⟨h.os, h.output, h.size, fun k hk => h.block k (by omega)⟩
theorem Kep.of_below {B : Nat} {w w' : World} (h : Below B w w') : Kep B w w' := ⟨h.os, h.output, h.size, h.block⟩
theorem Kep.drew {B : Nat} {a w : World} (h : Kep B a w) : Kep B a w.drew := ⟨h.os, h.output, h.size, h.block⟩
theorem Kep.alloc {B : Nat} {a w : World} (h : Kep B a w) (hB : B ≤ w.heap.size) (o : Obj) : Kep B a (w.alloc o) := h.trans (Kep.of_below ((Below.refl _ _).alloc hB o))
theorem Kep.setCell {B : Nat} {a w : World} (h : Kep B a w) {p : Addr} (hp : B ≤ p.block) (u : Value) : Kep B a (w.setCell p u) := h.trans (Kep.of_below ((Below.refl _ _).setCell hp u))
theorem Kep.row {B : Nat} {a w w' : World} {row : Option Nat} (h : Kep B a w) (hg : w.grownBy w' row) (hB : B ≤ w.heap.size) (hr : ∀ k, row = some k → B ≤ k) : Kep B a w' := h.trans (Kep.of_below ((Below.refl _ _).grown hg hB hr))
theorem Kep.of_grown {w w' : World} (h : Grown w w') : Kep w.heap.size w w' := by
  obtain ⟨⟨h1, h2, h3⟩, _, h4⟩ := h
  refine ⟨h1, h2, h4, fun k hk => ?_⟩
  have g := h3 k hk
  split at g
  · rename_i c t fr c' t' fr' e e'
    obtain ⟨rfl, rfl, hs, hc⟩ := g
    rw [e, e']
    have : c' = c := Array.ext_getElem? fun j => hc j (fun x => x)
    rw [this]
  · rename_i es clock es' clock' e e'
    rw [e, e']
    rcases g with g | ⟨rfl, rfl⟩
    · exact g.elim
    · rfl
  · exact g
theorem Kep.cell {B : Nat} {w w' : World} (h : Kep B w w') {p : Addr} (hp : p.block < B) : w'.cell? p = w.cell? p := World.cell?_of_block (w := w) (h.block p.block hp)
theorem Kep.frozen {B : Nat} {w w' : World} (h : Kep B w w') {p : Addr} (hp : p.block < B) : w'.frozen? p = w.frozen? p := World.frozen?_of_block (w := w) (h.block p.block hp)
theorem Kep.holds {B : Nat} {w w' : World} (h : Kep B w w') {b o : Nat} {v : Value} (hp : b < B) (hv : w.cell? ⟨b, o, none⟩ = some v) : w'.cell? ⟨b, o, none⟩ = some v := (h.cell (p := ⟨b, o, none⟩) hp).trans hv
theorem Kep.all {w w' : World} (h : Kep w.heap.size w w') {a : Addr} {v : Value} (hv : w.cell? a = some v) : w'.cell? a = some v := (h.cell (World.block_lt_of_cell? _ _ hv)).trans hv
theorem Kep.frame {W w' : World} (h : Kep W.heap.size W w') (may : MemPlace → Prop) : W.keptBut w' may := by
  refine ⟨h.os, h.output, fun i hi => ?_⟩
  rw [h.block i hi]
  split <;> simp_all
end Go.Proofs.Ytlabeelbbkbkaaa
end

section
/-
  A body as an argument: opened into its ten numbers, and shut again.
-/
namespace Go.Proofs.Ytlabeelbbkbkaaa
open Go.ChangeShapes Go.WideShapes Go.ChangeAt Go.RowKit Go.Joins

theorem cells_body : Try.prog.cellsOf 37 = 10 := by kernel_rfl
theorem cells_vec : Try.prog.cellsOf 25 = 2 := by kernel_rfl
theorem cells_u32 : Try.prog.cellsOf 35 = 1 := by kernel_rfl
theorem cells_i32 : Try.prog.cellsOf 21 = 1 := by kernel_rfl

section
variable {H : Type} {enc : TypeId × Value → H} {W : World} {base : Nat} {spare : Nat → Bool} {held : Bool}
theorem open_vec {n : Nat} {c0 c1 : Value} {y : DataW H × List MemPlace} (h : DataW.trod enc Try.prog W base spare held n 25 [c0, c1] = some y) :
    ∃ a b : Int, c0 = .int .i32 a ∧ c1 = .int .i32 b ∧ y = (.agg [.lit (.int .i32 a), .lit (.int .i32 b)], []) ∧ (Lit.int .i32 a).wf = true ∧ (Lit.int .i32 b).wf = true := by
  obtain ⟨z0, z1, m, hz, _, h0, h1⟩ := trod_struct2 Try.underlying25 h
  have g0 : DataW.trod enc Try.prog W base spare held m 21 [c0] = some z0 := by simpa [cells_i32] using h0
  have g1 : DataW.trod enc Try.prog W base spare held m 21 [c1] = some z1 := by simpa [cells_i32] using h1
  obtain ⟨a, e0, rfl, w0⟩ := DataW.trod_int Try.underlying21 g0
  obtain ⟨b, e1, rfl, w1⟩ := DataW.trod_int Try.underlying21 g1
  simp at e0 e1
  subst e0 e1
  exact ⟨a, b, rfl, rfl, by simpa using hz, w0, w1⟩
theorem shut_vec (m : Nat) {a b : Int} (w0 : (Lit.int .i32 a).wf = true) (w1 : (Lit.int .i32 b).wf = true) :
    DataW.trod enc Try.prog W base spare held (m + 2) 25 [.int .i32 a, .int .i32 b] = some (.agg [.lit (.int .i32 a), .lit (.int .i32 b)], []) := by
  have := trod_struct2_mk (enc := enc) (w := W) (base := base) (spare := spare) (held := held) (n := m + 1) (cs := [.int .i32 a, .int .i32 b]) (y0 := (.lit (.int .i32 a), [])) (y1 := (.lit (.int .i32 b), [])) Try.underlying25 (by simp [cells_vec])
    (by simpa [cells_i32] using trod_int_mk m Try.underlying21 w0) (by simpa [cells_i32] using trod_int_mk m Try.underlying21 w1)
  simpa using this

set_option maxRecDepth 100000 in
theorem open_body {r : Reach} {b0 : Nat} {v : Value} {d : DataW H} {p : List MemPlace} (hv : Value.okWide Try.prog W r b0 37 v) (h : DataW.Trod enc Try.prog W base spare held 37 v d p) :
    ∃ a0 a1 a2 a3 a4 a5 a6 a7 a8 a9 : Int, v = .agg #[.int .u32 a0, .int .i32 a1, .int .i32 a2, .int .i32 a3, .int .i32 a4, .int .i32 a5, .int .i32 a6, .int .i32 a7, .int .i32 a8, .int .i32 a9] ∧ d = .agg [.lit (.int .u32 a0), .lit (.int .i32 a1), .agg [.lit (.int .i32 a2), .lit (.int .i32 a3)], .lit (.int .i32 a4), .lit (.int .i32 a5), .agg [.lit (.int .i32 a6), .lit (.int .i32 a7)], .agg [.lit (.int .i32 a8), .lit (.int .i32 a9)]] ∧ p = [] ∧ (Lit.int .u32 a0).wf = true ∧ (Lit.int .i32 a1).wf = true ∧ (Lit.int .i32 a2).wf = true ∧ (Lit.int .i32 a3).wf = true ∧ (Lit.int .i32 a4).wf = true ∧ (Lit.int .i32 a5).wf = true ∧ (Lit.int .i32 a6).wf = true ∧ (Lit.int .i32 a7).wf = true ∧ (Lit.int .i32 a8).wf = true ∧ (Lit.int .i32 a9).wf = true := by
  obtain ⟨cs, rfl, hsz⟩ := okWide_struct Try.underlying37 hv
  rw [cells_body] at hsz
  obtain ⟨l⟩ := cs
  match l, hsz with
  | [c0, c1, c2, c3, c4, c5, c6, c7, c8, c9], _ =>
    obtain ⟨fuel, hf⟩ := h
    obtain ⟨xs, n, _, hx, _, hlen, hg⟩ := DataW.trod_struct Try.underlying37 hf
    match xs, hlen with
    | [y0, y1, y2, y3, y4, y5, y6], _ =>
      simp only [Prod.mk.injEq] at hx
      have g0 : DataW.trod enc Try.prog W base spare held n 35 [c0] = some y0 := by simpa [Value.cells, cells_u32] using hg 0 _ rfl
      have g1 : DataW.trod enc Try.prog W base spare held n 21 [c1] = some y1 := by simpa [Value.cells, cells_i32] using hg 1 _ rfl
      have g2 : DataW.trod enc Try.prog W base spare held n 25 [c2, c3] = some y2 := by simpa [Value.cells, cells_vec] using hg 2 _ rfl
      have g3 : DataW.trod enc Try.prog W base spare held n 21 [c4] = some y3 := by simpa [Value.cells, cells_i32] using hg 3 _ rfl
      have g4 : DataW.trod enc Try.prog W base spare held n 21 [c5] = some y4 := by simpa [Value.cells, cells_i32] using hg 4 _ rfl
      have g5 : DataW.trod enc Try.prog W base spare held n 25 [c6, c7] = some y5 := by simpa [Value.cells, cells_vec] using hg 5 _ rfl
      have g6 : DataW.trod enc Try.prog W base spare held n 25 [c8, c9] = some y6 := by simpa [Value.cells, cells_vec] using hg 6 _ rfl
      clear hg hf hv
      obtain ⟨a0, e0, rfl, w0⟩ := DataW.trod_int Try.underlying35 g0
      obtain ⟨a1, e1, rfl, w1⟩ := DataW.trod_int Try.underlying21 g1
      obtain ⟨a2, a3, rfl, rfl, rfl, w2, w3⟩ := open_vec g2
      obtain ⟨a4, e4, rfl, w4⟩ := DataW.trod_int Try.underlying21 g3
      obtain ⟨a5, e5, rfl, w5⟩ := DataW.trod_int Try.underlying21 g4
      obtain ⟨a6, a7, rfl, rfl, rfl, w6, w7⟩ := open_vec g5
      obtain ⟨a8, a9, rfl, rfl, rfl, w8, w9⟩ := open_vec g6
      simp at e0 e1 e4 e5
      subst e0 e1 e4 e5
      exact ⟨a0, a1, a2, a3, a4, a5, a6, a7, a8, a9, rfl, by simpa using hx.1, by simpa using hx.2, w0, w1, w2, w3, w4, w5, w6, w7, w8, w9⟩

theorem shut_body {a0 a1 a2 a3 a4 a5 a6 a7 a8 a9 : Int} (h : (Lit.int .u32 a0).wf = true ∧ (Lit.int .i32 a1).wf = true ∧ (Lit.int .i32 a2).wf = true ∧ (Lit.int .i32 a3).wf = true ∧ (Lit.int .i32 a4).wf = true ∧ (Lit.int .i32 a5).wf = true ∧ (Lit.int .i32 a6).wf = true ∧ (Lit.int .i32 a7).wf = true ∧ (Lit.int .i32 a8).wf = true ∧ (Lit.int .i32 a9).wf = true) : DataW.Trod enc Try.prog W base spare held 37 (.agg #[.int .u32 a0, .int .i32 a1, .int .i32 a2, .int .i32 a3, .int .i32 a4, .int .i32 a5, .int .i32 a6, .int .i32 a7, .int .i32 a8, .int .i32 a9]) (.agg [.lit (.int .u32 a0), .lit (.int .i32 a1), .agg [.lit (.int .i32 a2), .lit (.int .i32 a3)], .lit (.int .i32 a4), .lit (.int .i32 a5), .agg [.lit (.int .i32 a6), .lit (.int .i32 a7)], .agg [.lit (.int .i32 a8), .lit (.int .i32 a9)]]) [] := by
  obtain ⟨w0, w1, w2, w3, w4, w5, w6, w7, w8, w9⟩ := h
  have := trod_struct_mk (enc := enc) (w := W) (base := base) (spare := spare) (held := held) (n := 2) (cs := [.int .u32 a0, .int .i32 a1, .int .i32 a2, .int .i32 a3, .int .i32 a4, .int .i32 a5, .int .i32 a6, .int .i32 a7, .int .i32 a8, .int .i32 a9]) (xs := [(.lit (.int .u32 a0), []), (.lit (.int .i32 a1), []), (.agg [.lit (.int .i32 a2), .lit (.int .i32 a3)], []), (.lit (.int .i32 a4), []), (.lit (.int .i32 a5), []), (.agg [.lit (.int .i32 a6), .lit (.int .i32 a7)], []), (.agg [.lit (.int .i32 a8), .lit (.int .i32 a9)], [])]) Try.underlying37 (by simp [cells_body])
    (by simp [cells_u32, cells_i32, cells_vec, trod_int_mk 1 Try.underlying35 w0, trod_int_mk 1 Try.underlying21 w1, trod_int_mk 1 Try.underlying21 w4, trod_int_mk 1 Try.underlying21 w5, shut_vec 0 w2 w3, shut_vec 0 w6 w7, shut_vec 0 w8 w9])
  exact ⟨3, by simpa [Value.cells] using this⟩
end
end Go.Proofs.Ytlabeelbbkbkaaa
end

section
/-
  Bodies as a list in ascending order of their keys: looking a key up, putting a body in, taking one out. Plain mathematics, of no program.
-/

namespace Go.Proofs.Ytlabeelbbkbkaaa

/-- A body: its ten numbers. -/
structure Bd where
  k : Int
  r : Int
  ax : Int
  ay : Int
  m : Int
  o : Int
  px : Int
  py : Int
  vx : Int
  vy : Int

/-- The first body with a key. -/
def look : List Bd → Int → Option Bd
  | [], _ => none
  | x :: l, key => if x.k = key then some x else look l key
/-- Its place, or -1. -/
def place : List Bd → Int → Nat → Int
  | [], _, _ => -1
  | x :: l, key, i => if x.k = key then i else place l key (i + 1)
/-- Ascending order of keys, each once. -/
def Asc : List Bd → Prop
  | [] => True
  | x :: l => (∀ y ∈ l, x.k < y.k) ∧ Asc l
/-- No key twice. -/
def Once : List Bd → Prop
  | [] => True
  | x :: l => (∀ y ∈ l, y.k ≠ x.k) ∧ Once l

theorem Asc.once : ∀ {l : List Bd}, Asc l → Once l
  | [], _ => trivial
  | _ :: _, ⟨h, t⟩ => ⟨fun y hy => by have := h y hy; omega, t.once⟩
theorem look_none : ∀ {l : List Bd} {key : Int}, look l key = none ↔ ∀ y ∈ l, y.k ≠ key
  | [], _ => by simp [look]
  | x :: l, key => by
    unfold look
    by_cases h : x.k = key
    · rw [if_pos h]; simp [h]
    · rw [if_neg h, look_none]; simp [h]
theorem look_some : ∀ {l : List Bd} {key : Int} {b : Bd}, look l key = some b → b ∈ l ∧ b.k = key
  | [], _, _, h => by cases h
  | x :: l, key, b, h => by
    unfold look at h
    by_cases c : x.k = key
    · rw [if_pos c] at h; cases h; exact ⟨by simp, c⟩
    · rw [if_neg c] at h; have := look_some h; exact ⟨by simp [this.1], this.2⟩
theorem look_mem : ∀ {l : List Bd}, Once l → ∀ {b : Bd}, b ∈ l → look l b.k = some b
  | [], _, _, h => by cases h
  | x :: l, ⟨h1, h2⟩, b, h => by
    unfold look
    rcases List.mem_cons.1 h with rfl | h
    · rw [if_pos rfl]
    · rw [if_neg (fun e => h1 b h e.symm)]; exact look_mem h2 h
/-- Two lists in order that answer alike are one. -/
theorem asc_ext : ∀ {a b : List Bd}, Asc a → Asc b → (∀ key, look a key = look b key) → a = b
  | [], [], _, _, _ => rfl
  | [], y :: b, _, _, h => by have := h y.k; simp [look] at this
  | x :: a, [], _, _, h => by have := h x.k; simp [look] at this
  | x :: a, y :: b, ⟨ha, ha'⟩, ⟨hb, hb'⟩, h => by
    have e : x = y := by
      have h1 := h x.k
      have h2 := h y.k
      have m1 : x ∈ y :: b := (look_some (h1.symm.trans (look_mem (Asc.once (l := x :: a) ⟨ha, ha'⟩) (by simp)))).1
      have m2 : y ∈ x :: a := (look_some (h2.trans (look_mem (Asc.once (l := y :: b) ⟨hb, hb'⟩) (by simp)))).1
      rcases List.mem_cons.1 m1 with e | m1
      · exact e
      · rcases List.mem_cons.1 m2 with e | m2
        · exact e.symm
        · have := ha y m2; have := hb x m1; omega
    subst e
    rw [asc_ext ha' hb' (fun key => ?_)]
    have h0 := h key
    unfold look at h0
    by_cases c : x.k = key
    · have n1 : look a key = none := look_none.2 fun y hy => by have := ha y hy; omega
      have n2 : look b key = none := look_none.2 fun y hy => by have := hb y hy; omega
      rw [n1, n2]
    · rw [if_neg c, if_neg c] at h0; exact h0
/-- An order of the list does not matter to what it answers, where no key stands twice. -/
theorem look_perm {a b : List Bd} (_ha : Once a) (hb : Once b) (h : ∀ x, x ∈ a ↔ x ∈ b) (key : Int) : look a key = look b key := by
  cases e : look a key with
  | none => exact (look_none.2 fun y hy => look_none.1 e y ((h y).2 hy)).symm
  | some x => obtain ⟨m, rfl⟩ := look_some e; exact (look_mem hb ((h x).1 m)).symm

/-- One round of putting a body in: what has been gathered, and whether it is in. -/
def putStep (b : Bd) (s : List Bd × Bool) (x : Bd) : List Bd × Bool :=
  let t : List Bd × Bool := if !s.2 && decide (b.k ≤ x.k) then (s.1 ++ [b], true) else s
  if x.k = b.k then t else (t.1 ++ [x], t.2)
def putTo (b : Bd) (gone : Bool) (l : List Bd) : List Bd × Bool := l.foldl (putStep b) ([], gone)
/-- The list with b in the place of its key; without it, if gone. -/
def put (l : List Bd) (b : Bd) (gone : Bool) : List Bd := if (putTo b gone l).2 then (putTo b gone l).1 else (putTo b gone l).1 ++ [b]
theorem putTo_snoc (b : Bd) (gone : Bool) (l : List Bd) (x : Bd) : putTo b gone (l ++ [x]) = putStep b (putTo b gone l) x := by simp [putTo]
def one (d : Bool) : Nat := bif d then 1 else 0
theorem putTo_len (b : Bd) (gone : Bool) (l : List Bd) : (putTo b gone l).1.length ≤ l.length + 1 := by
  have h : ∀ (l : List Bd) (s : List Bd × Bool) (n : Nat), s.1.length ≤ n + one s.2 → (l.foldl (putStep b) s).1.length ≤ n + l.length + one (l.foldl (putStep b) s).2 := by
    intro l
    induction l with
    | nil => intro s n h; exact h
    | cons x l ih =>
      intro s n h
      have := ih (putStep b s x) (n + 1) (by
        unfold putStep
        obtain ⟨a, d⟩ := s
        cases d
        · by_cases c : b.k ≤ x.k <;> by_cases e : x.k = b.k <;> simp [one, c, e] at h ⊢ <;> omega
        · by_cases e : x.k = b.k <;> simp [one, e] at h ⊢ <;> omega)
      simp only [List.foldl_cons, List.length_cons]
      omega
  have := h l ([], gone) 0 (by simp)
  have o : one (l.foldl (putStep b) ([], gone)).2 ≤ 1 := by unfold one; cases (l.foldl (putStep b) ([], gone)).2 <;> simp
  unfold putTo
  omega
/-- In terms of the ordered list: what lies below, b, what lies above. -/
theorem putTo_done (b : Bd) (gone : Bool) : ∀ (l : List Bd) (a : List Bd), (l.foldl (putStep b) (a, true)) = (a ++ l.filter (fun x => decide (x.k ≠ b.k)), true)
  | [], a => by simp
  | x :: l, a => by
    simp only [List.foldl_cons]
    by_cases e : x.k = b.k
    · have : putStep b (a, true) x = (a, true) := by simp [putStep, e]
      rw [this, putTo_done b gone l a]; simp [e]
    · have : putStep b (a, true) x = (a ++ [x], true) := by simp [putStep, e]
      rw [this, putTo_done b gone l (a ++ [x])]; simp [e]
theorem putTo_go (b : Bd) : ∀ (l : List Bd) (a : List Bd), Asc l → (l.foldl (putStep b) (a, false)) =
    if l.all (fun x => decide (x.k < b.k)) then (a ++ l, false) else (a ++ l.filter (fun x => decide (x.k < b.k)) ++ [b] ++ l.filter (fun x => decide (b.k < x.k)), true)
  | [], a, _ => by simp
  | x :: l, a, ⟨h1, h2⟩ => by
    simp only [List.foldl_cons]
    by_cases c : x.k < b.k
    · have : putStep b (a, false) x = (a ++ [x], false) := by
        have c1 : ¬ b.k ≤ x.k := by omega
        have c2 : ¬ x.k = b.k := by omega
        simp [putStep, c1, c2]
      rw [this, putTo_go b l (a ++ [x]) h2]
      have n : ¬ b.k < x.k := by omega
      by_cases q : l.all (fun x => decide (x.k < b.k)) = true <;> simp [c, q, n]
    · have f1 : l.filter (fun x => decide (x.k < b.k)) = [] := List.filter_eq_nil_iff.2 fun y hy => by have := h1 y hy; simp; omega
      have f2 : l.filter (fun x => decide (x.k ≠ b.k)) = l.filter (fun x => decide (b.k < x.k)) := List.filter_congr fun y hy => by have := h1 y hy; exact decide_eq_decide.2 (by omega)
      by_cases e : x.k = b.k
      · have : putStep b (a, false) x = (a ++ [b], true) := by simp [putStep, e]
        rw [this, putTo_done b false, f2]
        simp [e, f1]
      · have g : b.k < x.k := by omega
        have q : b.k ≤ x.k := by omega
        have : putStep b (a, false) x = (a ++ [b] ++ [x], true) := by simp [putStep, e, q]
        rw [this, putTo_done b false, f2]
        simp [c, g, f1]
theorem put_eq {l : List Bd} (h : Asc l) (b : Bd) : put l b false = l.filter (fun x => decide (x.k < b.k)) ++ [b] ++ l.filter (fun x => decide (b.k < x.k)) := by
  unfold put putTo
  rw [putTo_go b l [] h]
  by_cases q : l.all (fun x => decide (x.k < b.k)) = true
  · have q' : ∀ x ∈ l, x.k < b.k := by simpa using q
    have f1 : l.filter (fun x => decide (x.k < b.k)) = l := List.filter_eq_self.2 fun y hy => by simpa using q' y hy
    have f2 : l.filter (fun x => decide (b.k < x.k)) = [] := List.filter_eq_nil_iff.2 fun y hy => by have := q' y hy; simp; omega
    simp [q, f1, f2]
  · simp [q]
theorem put_gone (l : List Bd) (b : Bd) : put l b true = l.filter (fun x => decide (x.k ≠ b.k)) := by
  unfold put putTo
  rw [putTo_done b true l []]
  simp
theorem asc_filter (p : Bd → Bool) : ∀ {l : List Bd}, Asc l → Asc (l.filter p)
  | [], _ => trivial
  | x :: l, ⟨h1, h2⟩ => by
    rw [List.filter_cons]
    split
    · exact ⟨fun y hy => h1 y (List.mem_filter.1 hy).1, asc_filter p h2⟩
    · exact asc_filter p h2
theorem asc_append : ∀ {a b : List Bd}, Asc a → Asc b → (∀ x ∈ a, ∀ y ∈ b, x.k < y.k) → Asc (a ++ b)
  | [], _, _, hb, _ => hb
  | x :: a, b, ⟨h1, h2⟩, hb, h => ⟨fun y hy => by
      rcases List.mem_append.1 hy with hy | hy
      · exact h1 y hy
      · exact h x (by simp) y hy, asc_append h2 hb fun x' hx' => h x' (by simp [hx'])⟩
theorem put_asc {l : List Bd} (h : Asc l) (b : Bd) (gone : Bool) : Asc (put l b gone) := by
  cases gone
  · rw [put_eq h]
    refine asc_append (asc_append (asc_filter _ h) (by simp [Asc]) ?_) (asc_filter _ h) ?_
    · intro x hx y hy; simp at hx hy; subst hy; exact hx.2
    · intro x hx y hy
      simp at hx hy
      rcases hx with hx | rfl
      · have := hx.2; have := hy.2; omega
      · exact hy.2
  · rw [put_gone]; exact asc_filter _ h
theorem mem_put {l : List Bd} (h : Asc l) (b x : Bd) : x ∈ put l b false ↔ x = b ∨ (x ∈ l ∧ x.k ≠ b.k) := by
  rw [put_eq h]
  simp only [List.mem_append, List.mem_filter, List.mem_singleton, decide_eq_true_eq]
  constructor
  · rintro ((⟨m, c⟩ | rfl) | ⟨m, c⟩)
    · exact .inr ⟨m, by omega⟩
    · exact .inl rfl
    · exact .inr ⟨m, by omega⟩
  · rintro (rfl | ⟨m, c⟩)
    · exact .inl (.inr rfl)
    · rcases Int.lt_or_gt_of_ne c with c | c
      · exact .inl (.inl ⟨m, c⟩)
      · exact .inr ⟨m, c⟩
theorem mem_gone {l : List Bd} (b x : Bd) : x ∈ put l b true ↔ x ∈ l ∧ x.k ≠ b.k := by rw [put_gone]; simp
theorem look_put {l : List Bd} (h : Asc l) (b : Bd) (key : Int) : look (put l b false) key = if b.k = key then some b else look l key := by
  by_cases c : b.k = key
  · rw [if_pos c, ← c]; exact look_mem (put_asc h b false).once ((mem_put h b b).2 (.inl rfl))
  · rw [if_neg c]
    cases e : look l key with
    | none =>
      refine look_none.2 fun y hy => ?_
      rcases (mem_put h b y).1 hy with rfl | ⟨m, _⟩
      · exact c
      · exact look_none.1 e y m
    | some x => obtain ⟨m, rfl⟩ := look_some e; exact look_mem (put_asc h b false).once ((mem_put h b x).2 (.inr ⟨m, fun q => c q.symm⟩))
theorem look_gone {l : List Bd} (h : Asc l) (b : Bd) (key : Int) : look (put l b true) key = if b.k = key then none else look l key := by
  by_cases c : b.k = key
  · rw [if_pos c, ← c]; exact look_none.2 fun y hy => ((mem_gone b y).1 hy).2
  · rw [if_neg c]
    cases e : look l key with
    | none => exact look_none.2 fun y hy => look_none.1 e y ((mem_gone b y).1 hy).1
    | some x => obtain ⟨m, rfl⟩ := look_some e; exact look_mem (put_asc h b true).once ((mem_gone b x).2 ⟨m, fun q => c q.symm⟩)
theorem put_len {l : List Bd} (h : Asc l) (b : Bd) : (look l b.k = none → (put l b false).length = l.length + 1) ∧ (put l b false).length ≤ l.length + 1 := by
  have e := put_eq h b
  have key : ∀ l : List Bd, l.length = (l.filter (fun x => decide (x.k < b.k))).length + (l.filter (fun x => decide (x.k = b.k))).length + (l.filter (fun x => decide (b.k < x.k))).length := by
    intro l
    induction l with
    | nil => rfl
    | cons x l ih =>
      rcases Int.lt_trichotomy x.k b.k with c | c | c
      · have c1 : ¬ x.k = b.k := by omega
        have c2 : ¬ b.k < x.k := by omega
        simp [c, c1, c2]; omega
      · simp [c]; omega
      · have c1 : ¬ x.k = b.k := by omega
        have c2 : ¬ x.k < b.k := by omega
        simp [c, c1, c2]; omega
  have kl := key l
  refine ⟨fun hn => ?_, by rw [e]; simp; omega⟩
  have : l.filter (fun x => decide (x.k = b.k)) = [] := List.filter_eq_nil_iff.2 fun y hy => by simpa using look_none.1 hn y hy
  rw [e]
  rw [this] at kl
  simp at kl ⊢
  omega
theorem place_eq : ∀ (l : List Bd) (key : Int) (i : Nat), (look l key = none → place l key i = -1) ∧ (∀ b, look l key = some b → ∃ j, place l key i = ((i + j : Nat) : Int) ∧ l[j]? = some b)
  | [], _, _ => ⟨fun _ => rfl, fun _ h => by cases h⟩
  | x :: l, key, i => by
    unfold look place
    by_cases c : x.k = key
    · rw [if_pos c, if_pos c]
      refine ⟨fun h => by (cases h), fun b h => ⟨0, by simp, by cases h; simp⟩⟩
    · rw [if_neg c, if_neg c]
      have := place_eq l key (i + 1)
      refine ⟨this.1, fun b h => ?_⟩
      obtain ⟨j, hj, hb⟩ := this.2 b h
      exact ⟨j + 1, by rw [hj]; congr 1; omega, by simpa using hb⟩
end Go.Proofs.Ytlabeelbbkbkaaa
end
