/-
  The functions of math/bits that the program calls (Add64, Sub64, Mul64, Len64, LeadingZeros64), each by a contract on whole numbers: for every argument.
-/
import Derived.Test.YtnmlknjjbonenaaProg
import Derived.WalkKit
import Derived.Lib.Mul64
import Derived.Laws.Bits64b
import Derived.Laws.Externs
import Derived.Lib.Strings
import Derived.Lib.Slices
import Derived.Lib.Small
import Derived.Lib.Walk
import Derived.Lib.BitFns
namespace Go.Proofs.Ytnmlknjjbonenaa
open Go.RowKit Go.Lib

namespace Mul64

theorem maskN (a : Nat) (ha : a < 18446744073709551616) : bits .and .u64 (a : Int) 4294967295 = ((a % 4294967296 : Nat) : Int) := by
  have h := bits_and_u64_nat a 4294967295 ha (by omega)
  have e : a &&& 4294967295 = a % 4294967296 := Nat.and_two_pow_sub_one_eq_mod a 32
  rw [e] at h
  exact h
theorem divN (a : Nat) : (a : Int) / 4294967296 = ((a / 4294967296 : Nat) : Int) := by omega
theorem mulN (a b : Nat) : (a : Int) * (b : Int) = ((a * b : Nat) : Int) := (Int.natCast_mul a b).symm
theorem addN (a b : Nat) : (a : Int) + (b : Int) = ((a + b : Nat) : Int) := (Int.natCast_add a b).symm
theorem wrapN (a : Nat) (ha : a < 18446744073709551616) : IntKind.u64.wrap (a : Int) = (a : Int) := by rw [IntKind.wrap_u64]; omega
theorem wrapM (a : Nat) : IntKind.u64.wrap (a : Int) = ((a % 18446744073709551616 : Nat) : Int) := by rw [IntKind.wrap_u64]; omega
end Mul64

/-- The sum of two words with a carry of 0 or 1: its lower word and its carry. -/
theorem add64 (x y c : Int) (hx : 0 ≤ x) (hy : 0 ≤ y) (hc0 : 0 ≤ c) (hc : c ≤ 1) (w : World) : (callFunc 34 #[.int .u64 x, .int .u64 y, .int .u64 c]).run Try.prog w =
    .ok (.value (.tuple #[.int .u64 ((x + y + c) % 18446744073709551616), .int .u64 ((x + y + c) / 18446744073709551616)])) w := by
  rw [run_callFunc_extern Try.func34 (by kernel_rfl) (by kernel_rfl) (by kernel_rfl) (e := add64Entry) (by kernel_rfl), run_add64 x y c hx hy hc0 hc]
  rfl

theorem sub64N (x y b : Nat) (hb : b ≤ 1) (w : World) : (callFunc 41 #[.int .u64 x, .int .u64 y, .int .u64 b]).run Try.prog w =
    .ok (.value (.tuple #[.int .u64 (((x + 18446744073709551616 - y - b) % 18446744073709551616 : Nat) : Int), .int .u64 ((if x < y + b then 1 else 0 : Nat) : Int)])) w := by
  rw [run_callFunc_extern Try.func41 (by kernel_rfl) (by kernel_rfl) (by kernel_rfl) (e := (Extern.MathBitsCarry.rows[1]).2) (by kernel_rfl)]
  have : b = 0 ∨ b = 1 := by omega
  rcases this with rfl | rfl <;> rfl

/-- The difference of two words with a borrow of 0 or 1: its word, and whether more was taken than there was. -/
theorem sub64 (x y b : Int) (hx : 0 ≤ x) (hy : 0 ≤ y) (hy' : y < 18446744073709551616) (hb0 : 0 ≤ b) (hb : b ≤ 1) (w : World) : (callFunc 41 #[.int .u64 x, .int .u64 y, .int .u64 b]).run Try.prog w =
    .ok (.value (.tuple #[.int .u64 ((x - y - b) % 18446744073709551616), .int .u64 (if x < y + b then 1 else 0)])) w := by
  obtain ⟨x, rfl⟩ := Int.eq_ofNat_of_zero_le hx
  obtain ⟨y, rfl⟩ := Int.eq_ofNat_of_zero_le hy
  obtain ⟨b, rfl⟩ := Int.eq_ofNat_of_zero_le hb0
  have e1 : (((x + 18446744073709551616 - y - b) % 18446744073709551616 : Nat) : Int) = ((x : Int) - y - b) % 18446744073709551616 := by omega
  have e2 : ((if x < y + b then 1 else 0 : Nat) : Int) = if (x : Int) < y + b then 1 else 0 := by split <;> split <;> omega
  rw [← e1, ← e2]
  exact sub64N x y b (by omega) w

set_option maxHeartbeats 1000000 in
theorem mul64 (x y : Nat) (hx : x < 18446744073709551616) (hy : y < 18446744073709551616) (w : World) :
    Calls Try.prog 33 #[.int .u64 x, .int .u64 y] w fun e w' => e = .returned (.tuple #[.int .u64 ((x * y / 18446744073709551616 : Nat) : Int), .int .u64 ((x * y % 18446744073709551616 : Nat) : Int)]) ∧ w = w' := by
  obtain ⟨bd, bt, bw, hhi⟩ := Lib.mul64_hi x y hx hy
  have ba := Lib.half_mul_le (a := x / 4294967296) (b := y / 4294967296) (by omega) (by omega)
  have bb := Lib.half_mul_le (a := x / 4294967296) (b := y % 4294967296) (by omega) (by omega)
  have bc := Lib.half_mul_le (a := x % 4294967296) (b := y / 4294967296) (by omega) (by omega)
  have ba' : x / 4294967296 * (y / 4294967296) < 18446744073709551616 := by omega
  have bb' : x / 4294967296 * (y % 4294967296) < 18446744073709551616 := by omega
  have bc' : x % 4294967296 * (y / 4294967296) < 18446744073709551616 := by omega
  have bh1 : x / 4294967296 * (y / 4294967296) + (x / 4294967296 * (y % 4294967296) + x % 4294967296 * (y % 4294967296) / 4294967296) / 4294967296 < 18446744073709551616 := by omega
  have bh : x / 4294967296 * (y / 4294967296) + (x / 4294967296 * (y % 4294967296) + x % 4294967296 * (y % 4294967296) / 4294967296) / 4294967296 + ((x / 4294967296 * (y % 4294967296) + x % 4294967296 * (y % 4294967296) / 4294967296) % 4294967296 + x % 4294967296 * (y / 4294967296)) / 4294967296 < 18446744073709551616 := by omega
  go_enter Try.func33, Try.ntmps33
  go_wp2
  simp only [Mul64.maskN x hx, Mul64.maskN y hy, Mul64.divN, Mul64.mulN, Mul64.addN, Mul64.wrapN _ bd, Mul64.wrapN _ bb', Mul64.wrapN _ bt, Mul64.maskN _ bt, Mul64.wrapN _ bc', Mul64.wrapN _ bw, Mul64.wrapN _ ba', Mul64.wrapN _ bh1, Mul64.wrapN _ bh, Mul64.wrapM (x * y)]
  rw [hhi]
  go_ret2
  exact ⟨rfl, rfl⟩

theorem len_at (y : Int) (h : y.toNat < Lib.len8tab.size) : (((Lib.len8tab[y.toNat]'h).toNat : Nat) : Int) = Lib.len8 y := by
  unfold Lib.len8
  rw [getElem?_pos Lib.len8tab y.toNat h]
  rfl

theorem wrap_sum (k a : Nat) (hk : k ≤ 56) (ha : a ≤ 8) : wrap64 ((k : Int) + wrap64 (a : Int)) = ((k + a : Nat) : Int) := by
  unfold wrap64
  omega

theorem len_sum (k x y : Nat) (hx1 : x < 2 ^ 64) (hy : y = x / 2 ^ k) (hge : k = 0 ∨ 2 ^ k ≤ x) : Lib.bitLen x = k + Lib.bitLen y := by
  rcases hge with rfl | hge
  · rw [hy, Nat.pow_zero, Nat.div_one, Nat.zero_add]
  · rw [hy]; exact Lib.bitLen_shift k x hge hx1

/-- One way through the table's look-up: k bits are shifted away, and what is left is looked up. -/
theorem len_way (k : Nat) (x y : Int) (hk : k ≤ 56) (h : y.toNat < Lib.len8tab.size) (hx1 : x.toNat < 2 ^ 64) (hy0 : 0 ≤ y) (hy1 : y ≤ 255) (hy : y.toNat = x.toNat / 2 ^ k) (hge : k = 0 ∨ 2 ^ k ≤ x.toNat) :
    wrap64 ((k : Int) + wrap64 (((Lib.len8tab[y.toNat]'h).toNat : Nat) : Int)) = (Lib.bitLen x.toNat : Int) := by
  rw [len_at y h, Lib.len8_of y hy0 hy1, len_sum k x.toNat y.toNat hx1 hy hge]
  exact wrap_sum k _ hk (Lib.bitLen_le8' y hy0 hy1)

theorem bitLen_lt : ∀ (n x : Nat), x ≤ n → x < 2 ^ 64 → x < 2 ^ Lib.bitLen x
  | 0, x, h, _ => by
    obtain rfl : x = 0 := by omega
    exact Nat.two_pow_pos _
  | n + 1, x, h, h64 => by
    by_cases h0 : x = 0
    · subst h0; exact Nat.two_pow_pos _
    · have ih := bitLen_lt n (x / 2) (by omega) (by omega)
      rw [Lib.bitLen_half x h0 h64, Nat.add_comm, Nat.pow_succ]
      omega
theorem bitLen_ge : ∀ (n x : Nat), x ≤ n → x < 2 ^ 64 → 0 < x → 2 ^ Lib.bitLen x ≤ 2 * x
  | 0, x, h, _, h0 => by omega
  | n + 1, x, h, h64, h0 => by
    rw [Lib.bitLen_half x (by omega) h64, Nat.add_comm, Nat.pow_succ]
    by_cases h1 : x / 2 = 0
    · have e : Lib.bitLen 0 = 0 := by decide
      rw [h1, e]; omega
    · have ih := bitLen_ge n (x / 2) (by omega) (by omega) (by omega)
      omega

set_option maxRecDepth 100000 in
theorem tab_size : (Lib.len8tab.size : Int) = 256 := by
  have : Lib.len8tab.size = 256 := by decide
  omega

set_option maxHeartbeats 4000000 in
set_option maxRecDepth 100000 in
theorem len64 (x : Int) (w : World) (h0 : 0 ≤ x) (h1 : x ≤ 18446744073709551615) :
    Calls Try.prog 42 #[.int .u64 x] w fun e w' => e = .returned (.int .i64 (Lib.bitLen x.toNat)) ∧ w = w' := by
  have hs := tab_size
  go_enter Try.func42, Try.ntmps42
  go_wp2
  all_goals (go_ret; refine ⟨congrArg Ending.returned (congrArg (Value.int IntKind.i64) ?_), rfl⟩)
  · exact len_way 56 x _ (by decide) _ (by omega) (by omega) (by omega) (by omega) (.inr (by omega))
  · exact len_way 48 x _ (by decide) _ (by omega) (by omega) (by omega) (by omega) (.inr (by omega))
  · exact len_way 40 x _ (by decide) _ (by omega) (by omega) (by omega) (by omega) (.inr (by omega))
  · exact len_way 32 x _ (by decide) _ (by omega) (by omega) (by omega) (by omega) (.inr (by omega))
  · exact len_way 24 x _ (by decide) _ (by omega) (by omega) (by omega) (by omega) (.inr (by omega))
  · exact len_way 16 x _ (by decide) _ (by omega) (by omega) (by omega) (by omega) (.inr (by omega))
  · exact len_way 8 x _ (by decide) _ (by omega) (by omega) (by omega) (by omega) (.inr (by omega))
  · have h8 := Lib.bitLen_le8' x h0 (by omega)
    rw [len_at x _, Lib.len8_of x h0 (by omega)]
    unfold wrap64
    omega

theorem lead64 (x : Int) (w : World) (h0 : 0 ≤ x) (h1 : x ≤ 18446744073709551615) :
    Calls Try.prog 39 #[.int .u64 x] w fun e w' => e = .returned (.int .i64 (64 - Lib.bitLen x.toNat)) ∧ w = w' := by
  have hl := Lib.bitLen_le x.toNat 64 (by omega) (by omega)
  go_enter Try.func39, Try.ntmps39
  go_wp2_with (go_at_call 42; refine (len64 x _ h0 h1).mono ?_; rintro e w' ⟨rfl, rfl⟩)
  go_ret
  exact ⟨by simp, rfl⟩
end Go.Proofs.Ytnmlknjjbonenaa
