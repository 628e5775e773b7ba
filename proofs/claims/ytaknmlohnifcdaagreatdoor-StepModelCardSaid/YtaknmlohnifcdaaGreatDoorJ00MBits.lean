import Derived.Test.YtaknmlohnifcdaaGreatDoorProg
import Derived.WalkKit
import Derived.Lib.Mul64
import Derived.Laws.Bits64b
import Derived.Laws.Externs
import Derived.Lib.Strings
import Derived.Lib.Slices
import Derived.Lib.Small
import Derived.Lib.Walk
import Derived.Lib.BitFns
import Derived.Deep.QuietTactic
import Derived.BigQuiet
import Derived.RowKit3
import Derived.Lib.Hide
import Derived.Deep.DeepCutAuto
import Derived.Deep.CutRange
import Derived.Deep.CutBlock
import Derived.Deep.RegionWith
import Derived.OpenShut
import Derived.Deep.RegionHeld3
import Derived.Test.YtaknmlohnifcdaaGreatDoorRows
import Derived.ProofKit
import Derived.ChangeSame
import Derived.Lib.SmallJoins
set_option maxHeartbeats 4000000
set_option maxRecDepth 100000
section
namespace Go.Proofs.YtaknmlohnifcdaaGreatDoor
open Go.RowKit Go.Lib

namespace Mul64

theorem maskN (a : Nat) (ha : a < 18446744073709551616) : bits .and .u64 (a : Int) 4294967295 = ((a % 4294967296 : Nat) : Int) := by
 have h := bits_and_u64_nat a 4294967295 ha (by omega)
 have e : a &&& 4294967295 = a % 4294967296 := Nat.and_two_pow_sub_one_eq_mod a 32
 rw [e] at h
 exact h
theorem divN (a : Nat) : (a : Int) / 4294967296 = ((a / 4294967296 : Nat) : Int) := by omega
theorem mulN (a b : Nat) : (a : Int) * (b : Int) = ((a * b : Nat) : Int) := (Int.natCast_mul a b).symm
theorem addN (a b : Nat) : (a : Int) + (b : Int) = ((a + b : Nat) : Int) := (Int.natCast_add a b).symm
theorem wrapN (a : Nat) (ha : a < 18446744073709551616) : IntKind.u64.wrap (a : Int) = (a : Int) := by rw [IntKind.wrap_u64]; omega
theorem wrapM (a : Nat) : IntKind.u64.wrap (a : Int) = ((a % 18446744073709551616 : Nat) : Int) := by rw [IntKind.wrap_u64]; omega
end Mul64

theorem add64 (x y c : Int) (hx : 0 ≤ x) (hy : 0 ≤ y) (hc0 : 0 ≤ c) (hc : c ≤ 1) (w : World) : (callFunc 128 #[.int .u64 x, .int .u64 y, .int .u64 c]).run Tryz.prog w =
 .ok (.value (.tuple #[.int .u64 ((x + y + c) % 18446744073709551616), .int .u64 ((x + y + c) / 18446744073709551616)])) w := by
 rw [run_callFunc_extern Tryz.func128 (by kernel_rfl) (by kernel_rfl) (by kernel_rfl) (e := add64Entry) (by kernel_rfl), run_add64 x y c hx hy hc0 hc]
 rfl

theorem sub64N (x y b : Nat) (hb : b ≤ 1) (w : World) : (callFunc 163 #[.int .u64 x, .int .u64 y, .int .u64 b]).run Tryz.prog w =
 .ok (.value (.tuple #[.int .u64 (((x + 18446744073709551616 - y - b) % 18446744073709551616 : Nat) : Int), .int .u64 ((if x < y + b then 1 else 0 : Nat) : Int)])) w := by
 rw [run_callFunc_extern Tryz.func163 (by kernel_rfl) (by kernel_rfl) (by kernel_rfl) (e := (Extern.MathBitsCarry.rows[1]).2) (by kernel_rfl)]
 have : b = 0 ∨ b = 1 := by omega
 rcases this with rfl | rfl <;> rfl

theorem sub64 (x y b : Int) (hx : 0 ≤ x) (hy : 0 ≤ y) (hy' : y < 18446744073709551616) (hb0 : 0 ≤ b) (hb : b ≤ 1) (w : World) : (callFunc 163 #[.int .u64 x, .int .u64 y, .int .u64 b]).run Tryz.prog w =
 .ok (.value (.tuple #[.int .u64 ((x - y - b) % 18446744073709551616), .int .u64 (if x < y + b then 1 else 0)])) w := by
 obtain ⟨x, rfl⟩ := Int.eq_ofNat_of_zero_le hx
 obtain ⟨y, rfl⟩ := Int.eq_ofNat_of_zero_le hy
 obtain ⟨b, rfl⟩ := Int.eq_ofNat_of_zero_le hb0
 have e1 : (((x + 18446744073709551616 - y - b) % 18446744073709551616 : Nat) : Int) = ((x : Int) - y - b) % 18446744073709551616 := by omega
 have e2 : ((if x < y + b then 1 else 0 : Nat) : Int) = if (x : Int) < y + b then 1 else 0 := by split <;> split <;> omega
 rw [← e1, ← e2]
 exact sub64N x y b (by omega) w

theorem mul64 (x y : Nat) (hx : x < 18446744073709551616) (hy : y < 18446744073709551616) (w : World) :
 Calls Tryz.prog 127 #[.int .u64 x, .int .u64 y] w fun e w' => e = .returned (.tuple #[.int .u64 ((x * y / 18446744073709551616 : Nat) : Int), .int .u64 ((x * y % 18446744073709551616 : Nat) : Int)]) ∧ w = w' := by
 obtain ⟨bd, bt, bw, hhi⟩ := Lib.mul64_hi x y hx hy
 have ba := Lib.half_mul_le (a := x / 4294967296) (b := y / 4294967296) (by omega) (by omega)
 have bb := Lib.half_mul_le (a := x / 4294967296) (b := y % 4294967296) (by omega) (by omega)
 have bc := Lib.half_mul_le (a := x % 4294967296) (b := y / 4294967296) (by omega) (by omega)
 have ba' : x / 4294967296 * (y / 4294967296) < 18446744073709551616 := by omega
 have bb' : x / 4294967296 * (y % 4294967296) < 18446744073709551616 := by omega
 have bc' : x % 4294967296 * (y / 4294967296) < 18446744073709551616 := by omega
 have bh1 : x / 4294967296 * (y / 4294967296) + (x / 4294967296 * (y % 4294967296) + x % 4294967296 * (y % 4294967296) / 4294967296) / 4294967296 < 18446744073709551616 := by omega
 have bh : x / 4294967296 * (y / 4294967296) + (x / 4294967296 * (y % 4294967296) + x % 4294967296 * (y % 4294967296) / 4294967296) / 4294967296 + ((x / 4294967296 * (y % 4294967296) + x % 4294967296 * (y % 4294967296) / 4294967296) % 4294967296 + x % 4294967296 * (y / 4294967296)) / 4294967296 < 18446744073709551616 := by omega
 go_enter Tryz.func127, Tryz.ntmps127
 go_wp2
 simp only [Mul64.maskN x hx, Mul64.maskN y hy, Mul64.divN, Mul64.mulN, Mul64.addN, Mul64.wrapN _ bd, Mul64.wrapN _ bb', Mul64.wrapN _ bt, Mul64.maskN _ bt, Mul64.wrapN _ bc', Mul64.wrapN _ bw, Mul64.wrapN _ ba', Mul64.wrapN _ bh1, Mul64.wrapN _ bh, Mul64.wrapM (x * y)]
 rw [hhi]
 go_ret2
 exact ⟨rfl, rfl⟩

theorem len_at (y : Int) (h : y.toNat < Lib.len8tab.size) : (((Lib.len8tab[y.toNat]'h).toNat : Nat) : Int) = Lib.len8 y := by
 unfold Lib.len8
 rw [getElem?_pos Lib.len8tab y.toNat h]
 rfl

theorem wrap_sum (k a : Nat) (hk : k ≤ 56) (ha : a ≤ 8) : wrap64 ((k : Int) + wrap64 (a : Int)) = ((k + a : Nat) : Int) := by
 unfold wrap64
 omega

theorem len_sum (k x y : Nat) (hx1 : x < 2 ^ 64) (hy : y = x / 2 ^ k) (hge : k = 0 ∨ 2 ^ k ≤ x) : Lib.bitLen x = k + Lib.bitLen y := by
 rcases hge with rfl | hge
 ·rw [hy, Nat.pow_zero, Nat.div_one, Nat.zero_add]
 ·rw [hy]; exact Lib.bitLen_shift k x hge hx1

theorem len_way (k : Nat) (x y : Int) (hk : k ≤ 56) (h : y.toNat < Lib.len8tab.size) (hx1 : x.toNat < 2 ^ 64) (hy0 : 0 ≤ y) (hy1 : y ≤ 255) (hy : y.toNat = x.toNat / 2 ^ k) (hge : k = 0 ∨ 2 ^ k ≤ x.toNat) :
 wrap64 ((k : Int) + wrap64 (((Lib.len8tab[y.toNat]'h).toNat : Nat) : Int)) = (Lib.bitLen x.toNat : Int) := by
 rw [len_at y h, Lib.len8_of y hy0 hy1, len_sum k x.toNat y.toNat hx1 hy hge]
 exact wrap_sum k _ hk (Lib.bitLen_le8' y hy0 hy1)

theorem bitLen_lt : ∀ (n x : Nat), x ≤ n → x < 2 ^ 64 → x < 2 ^ Lib.bitLen x
 | 0, x, h, _ => by
   obtain rfl : x = 0 := by omega
   exact Nat.two_pow_pos _
 | n + 1, x, h, h64 => by
   by_cases h0 : x = 0
   ·subst h0; exact Nat.two_pow_pos _
   ·have ih := bitLen_lt n (x / 2) (by omega) (by omega)
    rw [Lib.bitLen_half x h0 h64, Nat.add_comm, Nat.pow_succ]
    omega
theorem bitLen_ge : ∀ (n x : Nat), x ≤ n → x < 2 ^ 64 → 0 < x → 2 ^ Lib.bitLen x ≤ 2 * x
 | 0, x, h, _, h0 => by omega
 | n + 1, x, h, h64, h0 => by
   rw [Lib.bitLen_half x (by omega) h64, Nat.add_comm, Nat.pow_succ]
   by_cases h1 : x / 2 = 0
   ·have e : Lib.bitLen 0 = 0 := by decide
    rw [h1, e]; omega
   ·have ih := bitLen_ge n (x / 2) (by omega) (by omega) (by omega)
    omega

theorem tab_size : (Lib.len8tab.size : Int) = 256 := by
 have : Lib.len8tab.size = 256 := by decide
 omega

theorem len64 (x : Int) (w : World) (h0 : 0 ≤ x) (h1 : x ≤ 18446744073709551615) :
 Calls Tryz.prog 184 #[.int .u64 x] w fun e w' => e = .returned (.int .i64 (Lib.bitLen x.toNat)) ∧ w = w' := by
 have hs := tab_size
 go_enter Tryz.func184, Tryz.ntmps184
 go_wp2
 all_goals (go_ret; refine ⟨congrArg Ending.returned (congrArg (Value.int IntKind.i64) ?_), rfl⟩)
 ·exact len_way 56 x _ (by decide) _ (by omega) (by omega) (by omega) (by omega) (.inr (by omega))
 ·exact len_way 48 x _ (by decide) _ (by omega) (by omega) (by omega) (by omega) (.inr (by omega))
 ·exact len_way 40 x _ (by decide) _ (by omega) (by omega) (by omega) (by omega) (.inr (by omega))
 ·exact len_way 32 x _ (by decide) _ (by omega) (by omega) (by omega) (by omega) (.inr (by omega))
 ·exact len_way 24 x _ (by decide) _ (by omega) (by omega) (by omega) (by omega) (.inr (by omega))
 ·exact len_way 16 x _ (by decide) _ (by omega) (by omega) (by omega) (by omega) (.inr (by omega))
 ·exact len_way 8 x _ (by decide) _ (by omega) (by omega) (by omega) (by omega) (.inr (by omega))
 ·have h8 := Lib.bitLen_le8' x h0 (by omega)
  rw [len_at x _, Lib.len8_of x h0 (by omega)]
  unfold wrap64
  omega

theorem lead64 (x : Int) (w : World) (h0 : 0 ≤ x) (h1 : x ≤ 18446744073709551615) :
 Calls Tryz.prog 161 #[.int .u64 x] w fun e w' => e = .returned (.int .i64 (64 - Lib.bitLen x.toNat)) ∧ w = w' := by
 have hl := Lib.bitLen_le x.toNat 64 (by omega) (by omega)
 go_enter Tryz.func161, Tryz.ntmps161
 go_wp2_with (go_at_call 184; refine (len64 x _ h0 h1).mono ?_; rintro e w' ⟨rfl, rfl⟩)
 go_ret
 exact ⟨by simp, rfl⟩
end Go.Proofs.YtaknmlohnifcdaaGreatDoor
end
section

namespace Go.Proofs.YtaknmlohnifcdaaGreatDoor.DivA

theorem lin1 (u d P R r : Nat) (hq : P + r = u) (h : u * 4294967296 + d < P * 4294967296 + R) : r * 4294967296 + d < R := by
 simp only [Nat.mul_comm _ 4294967296] at *
 omega

theorem head (u d a b q r : Nat) (hu : u < a * 4294967296 + b) (hd : d < 4294967296) (hq : q * a + r = u) :
 (u * 4294967296 + d) / (a * 4294967296 + b) < q ↔ (4294967296 ≤ q ∨ r * 4294967296 + d < q * b) := by
 have hy : 0 < a * 4294967296 + b := by omega
 rw [Nat.div_lt_iff_lt_mul hy, Nat.mul_add, ← Nat.mul_assoc]
 obtain ⟨P, hP⟩ : ∃ P, q * a = P := ⟨_, rfl⟩
 obtain ⟨R, hR⟩ : ∃ R, q * b = R := ⟨_, rfl⟩
 rw [hP] at hq
 rw [hP, hR]
 constructor
 ·intro h; right; exact lin1 _ _ _ _ _ hq h
 ·rintro (h | h)
  ·have h1 : 4294967296 * a ≤ P := by rw [← hP]; exact Nat.mul_le_mul_right a h
   have h2 : 4294967296 * b ≤ R := by rw [← hR]; exact Nat.mul_le_mul_right b h
   simp only [Nat.mul_comm _ 4294967296] at *
   omega
  ·simp only [Nat.mul_comm _ 4294967296] at *
   omega

theorem out (u d a b q r : Nat) (hb : b < 4294967296) (hu : u < a * 4294967296 + b) (hq : q * a + r = u) (hr : 4294967296 ≤ r) :
 ¬ (u * 4294967296 + d) / (a * 4294967296 + b) < q := by
 have hy : 0 < a * 4294967296 + b := by omega
 rw [Nat.div_lt_iff_lt_mul hy, Nat.mul_add, ← Nat.mul_assoc]
 have hq' : q < 4294967296 := by
  apply Nat.lt_of_not_le
  intro h
  have h1 : 4294967296 * a ≤ q * a := Nat.mul_le_mul_right a h
  omega
 have h2 : q * b ≤ 4294967295 * b := Nat.mul_le_mul_right b (by omega)
 omega

theorem digit (u d a b : Nat) (hu : u < a * 4294967296 + b) (hd : d < 4294967296) : (u * 4294967296 + d) / (a * 4294967296 + b) < 4294967296 := by
 rw [Nat.div_lt_iff_lt_mul (by omega)]
 omega

theorem guess (u d a b : Nat) (ha : 0 < a) (hd : d < 4294967296) : (u * 4294967296 + d) / (a * 4294967296 + b) ≤ u / a := by
 rw [← Nat.lt_succ_iff, Nat.div_lt_iff_lt_mul (by omega)]
 have h := Nat.lt_mul_div_succ u ha
 have e : (u / a).succ * (a * 4294967296 + b) = a * (u / a + 1) * 4294967296 + (u / a).succ * b := by
  rw [Nat.mul_add, ← Nat.mul_assoc, Nat.mul_comm a]
 rw [e]
 omega

theorem two (M K l Y : Nat) (hY : 0 < Y) : M / Y * K + (M % Y * K + l) / Y = (M * K + l) / Y ∧ (M % Y * K + l) % Y = (M * K + l) % Y := by
 have e : M * K + l = (M % Y * K + l) + Y * (M / Y * K) := by
  rw [← Nat.mul_assoc]
  conv => lhs; rw [← Nat.div_add_mod M Y]
  rw [Nat.add_mul, Nat.mul_assoc]; omega
 rw [e, Nat.add_mul_div_left _ _ hY, Nat.add_mul_mod_self_left]
 exact ⟨Nat.add_comm _ _, rfl⟩

theorem moved (hi lo s : Nat) (hs : s ≤ 64) :
 (hi * 2 ^ s + lo / 2 ^ (64 - s)) * 18446744073709551616 + lo * 2 ^ s % 18446744073709551616 = (hi * 18446744073709551616 + lo) * 2 ^ s := by
 have e : (18446744073709551616 : Nat) = 2 ^ (64 - s) * 2 ^ s := by rw [← Nat.pow_add, Nat.sub_add_cancel hs]
 have e1 : lo * 2 ^ s / 18446744073709551616 = lo / 2 ^ (64 - s) := by
  conv => lhs; rw [e]
  exact Nat.mul_div_mul_right _ _ (Nat.two_pow_pos s)
 have e2 := Nat.div_add_mod (lo * 2 ^ s) 18446744073709551616
 rw [e1] at e2
 rw [Nat.add_mul (hi * 18446744073709551616) lo, Nat.mul_right_comm hi]
 omega

theorem below (hi lo y s : Nat) (hs : s ≤ 64) (hlo : lo < 18446744073709551616) (hy : hi < y) : hi * 2 ^ s + lo / 2 ^ (64 - s) < y * 2 ^ s := by
 have m := moved hi lo s hs
 have h1 : (hi * 18446744073709551616 + lo) * 2 ^ s < (y * 18446744073709551616) * 2 ^ s := Nat.mul_lt_mul_of_pos_right (by omega) (Nat.two_pow_pos s)
 rw [Nat.mul_right_comm] at h1
 omega

theorem whole (hi lo y s u l1 l0 Y q1 q0 r : Nat) (hs : s ≤ 64) (hy : 0 < y)
 (hu : u = hi * 2 ^ s + lo / 2 ^ (64 - s)) (hl : l1 * 4294967296 + l0 = lo * 2 ^ s % 18446744073709551616) (hY : Y = y * 2 ^ s)
 (h1 : q1 = (u * 4294967296 + l1) / Y) (h0 : q0 = ((u * 4294967296 + l1) % Y * 4294967296 + l0) / Y) (hr : r = ((u * 4294967296 + l1) % Y * 4294967296 + l0) % Y) :
 q1 * 4294967296 + q0 = (hi * 18446744073709551616 + lo) / y ∧ r / 2 ^ s = (hi * 18446744073709551616 + lo) % y := by
 have hY0 : 0 < Y := by rw [hY]; exact Nat.mul_pos hy (Nat.two_pow_pos s)
 have t := two (u * 4294967296 + l1) 4294967296 l0 Y hY0
 have m := moved hi lo s hs
 have e : (u * 4294967296 + l1) * 4294967296 + l0 = (hi * 18446744073709551616 + lo) * 2 ^ s := by
  rw [← m, ← hu, ← hl]
  simp only [Nat.mul_comm _ 4294967296, Nat.mul_comm _ 18446744073709551616] at *
  omega
 rw [← h1, ← h0, ← hr, e, hY, Nat.mul_div_mul_right _ _ (Nat.two_pow_pos s), Nat.mul_mod_mul_right] at t
 refine ⟨t.1, ?_⟩
 rw [t.2]
 exact Nat.mul_div_cancel _ (Nat.two_pow_pos s)

end Go.Proofs.YtaknmlohnifcdaaGreatDoor.DivA
end
namespace Go.Proofs.YtaknmlohnifcdaaGreatDoor
open Go.RowKit Go.Lib
theorem div64_0 (lo y : Nat) (hlo : lo < 18446744073709551616) (hy : y < 18446744073709551616) (h0 : 0 < y) (w : World) :
 Calls Tryz.prog 129 #[.int .u64 (0 : Int), .int .u64 lo, .int .u64 y] w fun e w' => e = .returned (.tuple #[.int .u64 ((lo / y : Nat) : Int), .int .u64 ((lo % y : Nat) : Int)]) ∧ Grown w w' := by
 have e1 : ((y : Int) == 0) = false := by simp; omega
 have e2 : ¬ (y : Int) ≤ 0 := by omega
 go_enter Tryz.func129, Tryz.ntmps129
 go_wp2
 go_quiet (fail)
 go_wp2
 go_ret2
 exact ⟨by have h1 : (lo : Int) / y < 18446744073709551616 := Int.lt_of_le_of_lt (Int.ediv_le_self _ (by omega)) (by omega)
           have h2 : 0 ≤ (lo : Int) / y := Int.ediv_nonneg (by omega) (by omega)
           simp [IntKind.wrap_u64]; omega, by repeat (first | exact Grown.refl _ | apply Grown.drew | apply Grown.alloc)⟩

theorem lead64s (y s : Nat) (w : World) (hs : s = 64 - Lib.bitLen y) (h1 : y < 18446744073709551616) :
 Calls Tryz.prog 161 #[.int .u64 (y : Int)] w fun e w' => e = .returned (.int .i64 (s : Int)) ∧ w = w' := by
 have hl := Lib.bitLen_le y 64 (by omega) (by omega)
 refine (lead64 y w (by omega) (by omega)).mono ?_
 rintro e w' ⟨rfl, rfl⟩
 refine ⟨?_, rfl⟩
 congr 2
 rw [Int.toNat_natCast]
 omega

def Dig (u a Q : Nat) (q r : Nat) : Prop := q * a + r = u ∧ r < 4294967296 ∧ Q ≤ q

theorem div64_1 (hi lo y s Y l h a b l1 l0 u g1 ga1 r1 Q1 m1 n1 p1 U g2 ga2 r2 Q0 m2 n2 p2 q1 q0 R : Nat) (hy : y < 18446744073709551616) (h0 : 0 < hi) (hlt : hi < y) (hs : Hid (s = 64 - Lib.bitLen y)) (hs63 : s ≤ 63)
 (hY : IntKind.u64.wrap ((y : Int) * 2 ^ s) = (Y : Int)) (hl : IntKind.u64.wrap ((lo : Int) * 2 ^ s) = (l : Int)) (hh : IntKind.u64.wrap ((hi : Int) * 2 ^ s) = (h : Int))
 (ha : (Y : Int) / 4294967296 = (a : Int)) (hb : bits .and .u64 (Y : Int) 4294967295 = (b : Int)) (hl1 : (l : Int) / 4294967296 = (l1 : Int)) (hl0 : bits .and .u64 (l : Int) 4294967295 = (l0 : Int))
 (hw : IntKind.u64.wrap (64 - (s : Int)) = ((64 - s : Nat) : Int)) (hu : bits .or .u64 (h : Int) ((lo : Int) / 2 ^ (64 - s)) = (u : Int))
 (hg1 : (u : Int) / (a : Int) = (g1 : Int)) (hgw1 : IntKind.u64.wrap (g1 : Int) = (g1 : Int)) (hgw2 : IntKind.u64.wrap (g2 : Int) = (g2 : Int)) (hga1 : IntKind.u64.wrap ((g1 : Int) * (a : Int)) = (ga1 : Int)) (hr1 : IntKind.u64.wrap ((u : Int) - (ga1 : Int)) = (r1 : Int))
 (hm1 : IntKind.u64.wrap ((u : Int) * 4294967296) = (m1 : Int)) (hn1 : IntKind.u64.wrap ((m1 : Int) + (l1 : Int)) = (n1 : Int)) (hp1 : IntKind.u64.wrap ((Q1 : Int) * (Y : Int)) = (p1 : Int)) (hU : IntKind.u64.wrap ((n1 : Int) - (p1 : Int)) = (U : Int))
 (hg2 : (U : Int) / (a : Int) = (g2 : Int)) (hga2 : IntKind.u64.wrap ((g2 : Int) * (a : Int)) = (ga2 : Int)) (hr2 : IntKind.u64.wrap ((U : Int) - (ga2 : Int)) = (r2 : Int))
 (hm2 : IntKind.u64.wrap ((U : Int) * 4294967296) = (m2 : Int)) (hn2 : IntKind.u64.wrap ((m2 : Int) + (l0 : Int)) = (n2 : Int)) (hp2 : IntKind.u64.wrap ((Q0 : Int) * (Y : Int)) = (p2 : Int)) (hR : IntKind.u64.wrap ((n2 : Int) - (p2 : Int)) = (R : Int))
 (hq1 : IntKind.u64.wrap ((Q1 : Int) * 4294967296) = (q1 : Int)) (hq0 : IntKind.u64.wrap ((q1 : Int) + (Q0 : Int)) = (q0 : Int))
 (hd1 : Dig u a Q1 g1 r1) (hd2 : Dig U a Q0 g2 r2) (hQ1 : Hid (Q1 = (u * 4294967296 + l1) / (a * 4294967296 + b))) (hQ0 : Hid (Q0 = (U * 4294967296 + l0) / (a * 4294967296 + b)))
 (Hu1 : Hid (u < a * 4294967296 + b)) (HU1 : Hid (U < a * 4294967296 + b)) (ha1 : a < 4294967296) (hb1 : b < 4294967296) (hl11 : l1 < 4294967296) (hl01 : l0 < 4294967296)
 (ha0 : 2147483648 ≤ a) (w : World) :
 Calls Tryz.prog 129 #[.int .u64 hi, .int .u64 lo, .int .u64 y] w fun e w' => e = .returned (.tuple #[.int .u64 (q0 : Int), .int .u64 ((R : Int) / 2 ^ s)]) ∧ w = w' := by
 have e1 : ((y : Int) == 0) = false := by simp; omega
 have e2 : ¬ (y : Int) ≤ (hi : Int) := by omega
 have e3 : ((hi : Int) == 0) = false := by simp; omega
 have e4 : min s 64 = s := by omega
 have e5 : min (64 - s) 64 = 64 - s := by omega
 go_enter Tryz.func129, Tryz.ntmps129
 go_upto_block 0 with (go_at_call 161; refine (lead64s y s _ hs.out hy).mono ?_; rintro e w' ⟨rfl, rfl⟩)
 go_cut [15, 16] from 67 to 85 (fun s15 _ wx => s15 = .int .u64 (Q1 : Int) ∧ wx = w)
 case first =>
  go_wp2_with fail
  have HD := Lib.hid hd1
  clear hd1
  go_loopg [15, 16] g1 (fun k sq sr wr => ∃ (r : Nat) (qi ri : Int), sq = .int .u64 qi ∧ sr = .int .u64 ri ∧ Hid (qi = k ∧ ri = r ∧ Dig u a Q1 k r) ∧ wr = w)
  case atStart => exact ⟨r1, _, _, rfl, rfl, Lib.hid ⟨rfl, rfl, HD.out⟩, rfl⟩
  case round =>
   obtain ⟨r, qi, ri, rfl, rfl, Hrel, rfl⟩ := hrel
   have hu1 := Hu1.out
   obtain ⟨hqi, hri, hu', hr', hq'⟩ := Hrel.out
   obtain ⟨B, hB⟩ : ∃ B, B = gk * b := ⟨_, rfl⟩
   obtain ⟨Bi, hBi⟩ : ∃ Bi : Int, Bi = (B : Int) := ⟨_, rfl⟩
   have hB' : gk < 4294967296 → B < 18446744073709551616 := fun h => by
    have h1 : gk * b ≤ 4294967295 * b := Nat.mul_le_mul_right b (by omega)
    omega
   have hh := DivA.head u l1 a b gk r hu1 hl11 hu'
   rw [← hQ1.out, ← hB] at hh
   have k3 : gk < 4294967296 → IntKind.u64.wrap (qi * (b : Int)) = Bi := fun h => by
    have := hB' h
    rw [hBi, hB, hqi, Int.natCast_mul, IntKind.wrap_u64, ← Int.natCast_mul, ← hB]; omega
   have ho := DivA.out u l1 a b (gk - 1) (r + a) hb1 hu1
   rw [← hQ1.out] at ho
   have hs1 : gk ≠ 0 → (gk - 1) * a + (r + a) = u := fun h => by
    have e : gk * a = (gk - 1) * a + a := by rw [← Nat.succ_mul, Nat.succ_eq_add_one, Nat.sub_add_cancel (by omega)]
    omega
   have hg64 : gk ≤ u := by
    have := Nat.le_mul_of_pos_right gk (show 0 < a by omega)
    omega
   obtain ⟨M, hM⟩ : ∃ M : Int, M = 4294967296 * ri := ⟨_, rfl⟩
   obtain ⟨N, hN⟩ : ∃ N : Int, N = M + (l1 : Int) := ⟨_, rfl⟩
   have k4 : IntKind.u64.wrap (4294967296 * ri) = M := by rw [IntKind.wrap_u64]; omega
   have k5 : IntKind.u64.wrap (M + (l1 : Int)) = N := by rw [IntKind.wrap_u64]; omega
   by_cases hc : Q1 < gk
   ·have hx := hh.1 hc
    obtain ⟨q', hq''⟩ : ∃ q' : Int, q' = qi - 1 := ⟨_, rfl⟩
    obtain ⟨r', hr''⟩ : ∃ r' : Int, r' = ri + (a : Int) := ⟨_, rfl⟩
    have k1 : IntKind.u64.wrap (qi - 1) = q' := by rw [IntKind.wrap_u64]; omega
    have k2 : IntKind.u64.wrap (ri + (a : Int)) = r' := by rw [IntKind.wrap_u64]; omega
    have hs2 := hs1 (by omega)
    have ho2 := ho hs2
    have HN : Hid (q' = ((gk - 1 : Nat) : Int) ∧ r' = ((r + a : Nat) : Int) ∧ (gk - 1) * a + (r + a) = u ∧ Q1 ≤ gk - 1) := Lib.hid ⟨by omega, by omega, hs2, by omega⟩
    have HM : Hid (4294967296 ≤ r' → gk - 1 = Q1) := Lib.hid fun h => by
     have := ho2 (by omega)
     omega
    have HG : Hid (gk - 1 < gk) := Lib.hid (by omega)
    by_cases c1 : 4294967296 ≤ qi
    ·clear hh hx ho hs1 hM hN k3 hB' hq' hr' hc hu' hu1 hB hBi hqi hri hg64 hs2 ho2 hq'' hr'' Hrel
     by_cases c2 : 4294967296 ≤ r'
     ·have HE := Lib.hid (HM.out c2)
      go_wp2
      go_meet
      case rel => exact ⟨by rw [HN.out.1, HE.out], rfl⟩
     ·have HL := Lib.hid c2
      go_wp2
      go_roundg (gk - 1)
      case measure => exact HG.out
      case rel =>
       obtain ⟨n1, n2, n3, n4⟩ := HN.out
       exact ⟨_, _, _, rfl, rfl, Lib.hid ⟨n1, n2, n3, by have := HL.out; omega, n4⟩, rfl⟩
    ·have k3' := k3 (by omega)
     have c3 : N < Bi := by omega
     clear hh hx ho hs1 hM hN k3 hB' hq' hr' hc hu' hu1 hB hBi hqi hri hg64 hs2 ho2 hq'' hr'' Hrel
     by_cases c2 : 4294967296 ≤ r'
     ·have HE := Lib.hid (HM.out c2)
      go_wp2
      go_meet
      case rel => exact ⟨by rw [HN.out.1, HE.out], rfl⟩
     ·have HL := Lib.hid c2
      go_wp2
      go_roundg (gk - 1)
      case measure => exact HG.out
      case rel =>
       obtain ⟨n1, n2, n3, n4⟩ := HN.out
       exact ⟨_, _, _, rfl, rfl, Lib.hid ⟨n1, n2, n3, by have := HL.out; omega, n4⟩, rfl⟩
   ·have hx : ¬ (4294967296 ≤ gk ∨ r * 4294967296 + l1 < B) := fun h => hc (hh.2 h)
    have hgk : gk = Q1 := by omega
    have c1 : qi < 4294967296 := by omega
    have c2 : ¬ N < Bi := by omega
    have k3' := k3 (by omega)
    have HX : Hid (qi = (Q1 : Int)) := Lib.hid (by omega)
    clear hh hx ho hs1 hM hN k3 hB' hgk hq' hr' hc hu' hu1 hB hBi hqi hri hg64 Hrel
    go_wp2
    go_meet
    case rel => exact ⟨by rw [HX.out], rfl⟩
 case rest =>
  obtain ⟨rfl, rfl⟩ := hcut
  go_upto_block 2 with fail
  go_cut [18, 16] from 102 to 120 (fun s18 _ wx => s18 = .int .u64 (Q0 : Int) ∧ wx = wc)
  case first =>
   go_wp2_with fail
   have HD := Lib.hid hd2
   clear hd2
   go_loopg [18, 16] g2 (fun k sq sr wr => ∃ (r : Nat) (qi ri : Int), sq = .int .u64 qi ∧ sr = .int .u64 ri ∧ Hid (qi = k ∧ ri = r ∧ Dig U a Q0 k r) ∧ wr = wc)
   case atStart => exact ⟨r2, _, _, rfl, rfl, Lib.hid ⟨rfl, rfl, HD.out⟩, rfl⟩
   case round =>
    obtain ⟨r, qi, ri, rfl, rfl, Hrel, rfl⟩ := hrel
    have hU1 := HU1.out
    obtain ⟨hqi, hri, hu', hr', hq'⟩ := Hrel.out
    obtain ⟨B, hB⟩ : ∃ B, B = gk * b := ⟨_, rfl⟩
    obtain ⟨Bi, hBi⟩ : ∃ Bi : Int, Bi = (B : Int) := ⟨_, rfl⟩
    have hB' : gk < 4294967296 → B < 18446744073709551616 := fun h => by
     have h1 : gk * b ≤ 4294967295 * b := Nat.mul_le_mul_right b (by omega)
     omega
    have hh := DivA.head U l0 a b gk r hU1 hl01 hu'
    rw [← hQ0.out, ← hB] at hh
    have k3 : gk < 4294967296 → IntKind.u64.wrap (qi * (b : Int)) = Bi := fun h => by
     have := hB' h
     rw [hBi, hB, hqi, Int.natCast_mul, IntKind.wrap_u64, ← Int.natCast_mul, ← hB]; omega
    have ho := DivA.out U l0 a b (gk - 1) (r + a) hb1 hU1
    rw [← hQ0.out] at ho
    have hs1 : gk ≠ 0 → (gk - 1) * a + (r + a) = U := fun h => by
     have e : gk * a = (gk - 1) * a + a := by rw [← Nat.succ_mul, Nat.succ_eq_add_one, Nat.sub_add_cancel (by omega)]
     omega
    have hg64 : gk ≤ U := by
     have := Nat.le_mul_of_pos_right gk (show 0 < a by omega)
     omega
    obtain ⟨M, hM⟩ : ∃ M : Int, M = 4294967296 * ri := ⟨_, rfl⟩
    obtain ⟨N, hN⟩ : ∃ N : Int, N = M + (l0 : Int) := ⟨_, rfl⟩
    have k4 : IntKind.u64.wrap (4294967296 * ri) = M := by rw [IntKind.wrap_u64]; omega
    have k5 : IntKind.u64.wrap (M + (l0 : Int)) = N := by rw [IntKind.wrap_u64]; omega
    by_cases hc : Q0 < gk
    ·have hx := hh.1 hc
     obtain ⟨q', hq''⟩ : ∃ q' : Int, q' = qi - 1 := ⟨_, rfl⟩
     obtain ⟨r', hr''⟩ : ∃ r' : Int, r' = ri + (a : Int) := ⟨_, rfl⟩
     have k1 : IntKind.u64.wrap (qi - 1) = q' := by rw [IntKind.wrap_u64]; omega
     have k2 : IntKind.u64.wrap (ri + (a : Int)) = r' := by rw [IntKind.wrap_u64]; omega
     have hs2 := hs1 (by omega)
     have ho2 := ho hs2
     have HN : Hid (q' = ((gk - 1 : Nat) : Int) ∧ r' = ((r + a : Nat) : Int) ∧ (gk - 1) * a + (r + a) = U ∧ Q0 ≤ gk - 1) := Lib.hid ⟨by omega, by omega, hs2, by omega⟩
     have HM : Hid (4294967296 ≤ r' → gk - 1 = Q0) := Lib.hid fun h => by
      have := ho2 (by omega)
      omega
     have HG : Hid (gk - 1 < gk) := Lib.hid (by omega)
     by_cases c1 : 4294967296 ≤ qi
     ·clear hh hx ho hs1 hM hN k3 hB' hq' hr' hc hu' hU1 hB hBi hqi hri hg64 hs2 ho2 hq'' hr'' Hrel
      by_cases c2 : 4294967296 ≤ r'
      ·have HE := Lib.hid (HM.out c2)
       go_wp2
       go_meet
       case rel => exact ⟨by rw [HN.out.1, HE.out], rfl⟩
      ·have HL := Lib.hid c2
       go_wp2
       go_roundg (gk - 1)
       case measure => exact HG.out
       case rel =>
        obtain ⟨n1, n2, n3, n4⟩ := HN.out
        exact ⟨_, _, _, rfl, rfl, Lib.hid ⟨n1, n2, n3, by have := HL.out; omega, n4⟩, rfl⟩
     ·have k3' := k3 (by omega)
      have c3 : N < Bi := by omega
      clear hh hx ho hs1 hM hN k3 hB' hq' hr' hc hu' hU1 hB hBi hqi hri hg64 hs2 ho2 hq'' hr'' Hrel
      by_cases c2 : 4294967296 ≤ r'
      ·have HE := Lib.hid (HM.out c2)
       go_wp2
       go_meet
       case rel => exact ⟨by rw [HN.out.1, HE.out], rfl⟩
      ·have HL := Lib.hid c2
       go_wp2
       go_roundg (gk - 1)
       case measure => exact HG.out
       case rel =>
        obtain ⟨n1, n2, n3, n4⟩ := HN.out
        exact ⟨_, _, _, rfl, rfl, Lib.hid ⟨n1, n2, n3, by have := HL.out; omega, n4⟩, rfl⟩
    ·have hx : ¬ (4294967296 ≤ gk ∨ r * 4294967296 + l0 < B) := fun h => hc (hh.2 h)
     have hgk : gk = Q0 := by omega
     have c1 : qi < 4294967296 := by omega
     have c2 : ¬ N < Bi := by omega
     have k3' := k3 (by omega)
     have HX : Hid (qi = (Q0 : Int)) := Lib.hid (by omega)
     clear hh hx ho hs1 hM hN k3 hB' hgk hq' hr' hc hu' hU1 hB hBi hqi hri hg64 Hrel
     go_wp2
     go_meet
     case rel => exact ⟨by rw [HX.out], rfl⟩
  case rest =>
   obtain ⟨rfl, rfl⟩ := hcut
   go_wp2
   go_ret2
   exact ⟨rfl, rfl⟩

theorem or_add (hi x s : Nat) (hx : x < 2 ^ s) (hs : s ≤ 64) (h : hi * 2 ^ s < 18446744073709551616) : bits .or .u64 ((hi * 2 ^ s : Nat) : Int) (x : Int) = ((hi * 2 ^ s + x : Nat) : Int) := by
 have h1 := Nat.shiftLeft_add_eq_or_of_lt hx hi
 rw [Nat.shiftLeft_eq] at h1
 have h2 : 2 ^ s ≤ 2 ^ 64 := Nat.pow_le_pow_right (by omega) hs
 have h3 := bits_or_u64_nat (hi * 2 ^ s) x h (by omega)
 rw [← h1] at h3
 exact h3

theorem dig_start (u d a b : Nat) (ha : 0 < a) (ha1 : a ≤ 4294967296) (hd : d < 4294967296) : Dig u a ((u * 4294967296 + d) / (a * 4294967296 + b)) (u / a) (u % a) := by
 refine ⟨?_, ?_, DivA.guess u d a b ha hd⟩
 ·rw [Nat.mul_comm]; exact Nat.div_add_mod u a
 ·have := Nat.mod_lt u ha
  omega

theorem wrap_le (x : Nat) (hx : x < 18446744073709551616) : IntKind.u64.wrap (x : Int) = (x : Int) := by rw [IntKind.wrap_u64]; omega
theorem wrap_mod (x : Nat) : IntKind.u64.wrap (x : Int) = ((x % 18446744073709551616 : Nat) : Int) := by rw [IntKind.wrap_u64]; omega

theorem left_behind (u d q Y U : Nat) (hU : U < 18446744073709551616) (h : u * 4294967296 + d = Y * q + U) :
 IntKind.u64.wrap (((((u * 4294967296) % 18446744073709551616 + d) % 18446744073709551616 : Nat) : Int) - (((q * Y) % 18446744073709551616 : Nat) : Int)) = (U : Int) := by
 rw [Nat.mul_comm Y q] at h
 obtain ⟨P, hP⟩ : ∃ P, q * Y = P := ⟨_, rfl⟩
 obtain ⟨M, hM⟩ : ∃ M, u * 4294967296 = M := ⟨_, rfl⟩
 rw [hP, hM] at h
 rw [hP, hM, IntKind.wrap_u64]
 omega

theorem sub_mod (u a : Nat) (hu : u < 18446744073709551616) : IntKind.u64.wrap ((u : Int) - ((u / a * a : Nat) : Int)) = ((u % a : Nat) : Int) := by
 have h := Nat.div_add_mod u a
 rw [Nat.mul_comm] at h
 rw [IntKind.wrap_u64]
 omega
theorem div64 (hi lo y : Nat) (hlo : lo < 18446744073709551616) (hy : y < 18446744073709551616) (hlt : hi < y) (w : World) :
 Calls Tryz.prog 129 #[.int .u64 (hi : Int), .int .u64 (lo : Int), .int .u64 (y : Int)] w fun e w' => e = .returned (.tuple #[.int .u64 (((hi * 18446744073709551616 + lo) / y : Nat) : Int), .int .u64 (((hi * 18446744073709551616 + lo) % y : Nat) : Int)]) ∧ Grown w w' := by
 by_cases h0 : hi = 0
 ·subst h0
  have c := div64_0 lo y hlo hy (by omega) w
  rw [Nat.zero_mul, Nat.zero_add]
  exact c
 ·obtain ⟨s, hs⟩ : ∃ s, s = 64 - Lib.bitLen y := ⟨_, rfl⟩
  have b1 := bitLen_lt y y (Nat.le_refl _) hy
  have b2 := bitLen_ge y y (Nat.le_refl _) hy (by omega)
  have b3 := Lib.bitLen_le y 64 (by omega) hy
  have b4 : Lib.bitLen y ≠ 0 := fun h => by rw [h] at b1; omega
  have e64 : 2 ^ Lib.bitLen y * 2 ^ s = 18446744073709551616 := by rw [← Nat.pow_add, hs, Nat.add_sub_cancel' b3]
  obtain ⟨Y, hY⟩ : ∃ Y, Y = y * 2 ^ s := ⟨_, rfl⟩
  have hp := Nat.two_pow_pos s
  have hY1 : Y < 18446744073709551616 := by rw [hY, ← e64]; exact Nat.mul_lt_mul_of_pos_right b1 hp
  have hY2 : 18446744073709551616 ≤ 2 * Y := by rw [hY, ← e64, ← Nat.mul_assoc]; exact Nat.mul_le_mul_right _ b2
  have hh : hi * 2 ^ s < Y := by rw [hY]; exact Nat.mul_lt_mul_of_pos_right hlt hp
  have hx : lo / 2 ^ (64 - s) < 2 ^ s := by
   rw [Nat.div_lt_iff_lt_mul (Nat.two_pow_pos _), ← Nat.pow_add, Nat.add_sub_cancel' (by omega)]
   exact hlo
  obtain ⟨u, hu⟩ : ∃ u, u = hi * 2 ^ s + lo / 2 ^ (64 - s) := ⟨_, rfl⟩
  have huY : u < Y := by rw [hu, hY]; exact DivA.below hi lo y s (by omega) hlo hlt
  obtain ⟨l, hl⟩ : ∃ l, l = lo * 2 ^ s % 18446744073709551616 := ⟨_, rfl⟩
  have hl64 : l < 18446744073709551616 := by rw [hl]; exact Nat.mod_lt _ (by decide)
  obtain ⟨a, ha⟩ : ∃ a, a = Y / 4294967296 := ⟨_, rfl⟩
  obtain ⟨b, hb⟩ : ∃ b, b = Y % 4294967296 := ⟨_, rfl⟩
  obtain ⟨l1, hl1⟩ : ∃ l1, l1 = l / 4294967296 := ⟨_, rfl⟩
  obtain ⟨l0, hl0⟩ : ∃ l0, l0 = l % 4294967296 := ⟨_, rfl⟩
  have hab : a * 4294967296 + b = Y := by rw [ha, hb]; exact Nat.div_add_mod' Y 4294967296
  have hll : l1 * 4294967296 + l0 = l := by rw [hl1, hl0]; exact Nat.div_add_mod' l 4294967296
  have ha0 : 2147483648 ≤ a := by omega
  have ha1 : a < 4294967296 := by omega
  have hb1 : b < 4294967296 := by omega
  have hl11 : l1 < 4294967296 := by omega
  have hl01 : l0 < 4294967296 := by omega
  obtain ⟨Q1, hQ1⟩ : ∃ Q1, Q1 = (u * 4294967296 + l1) / Y := ⟨_, rfl⟩
  obtain ⟨U, hU⟩ : ∃ U, U = (u * 4294967296 + l1) % Y := ⟨_, rfl⟩
  have hUY : U < Y := by rw [hU]; exact Nat.mod_lt _ (by omega)
  obtain ⟨Q0, hQ0⟩ : ∃ Q0, Q0 = (U * 4294967296 + l0) / Y := ⟨_, rfl⟩
  obtain ⟨R, hR⟩ : ∃ R, R = (U * 4294967296 + l0) % Y := ⟨_, rfl⟩
  have hRY : R < Y := by rw [hR]; exact Nat.mod_lt _ (by omega)
  have hQ1d : Q1 < 4294967296 := by rw [hQ1, ← hab]; exact DivA.digit u l1 a b (by omega) hl11
  have hQ0d : Q0 < 4294967296 := by rw [hQ0, ← hab]; exact DivA.digit U l0 a b (by omega) hl01
  have hdm1 : u * 4294967296 + l1 = Y * Q1 + U := by rw [hQ1, hU]; exact (Nat.div_add_mod _ _).symm
  have hdm0 : U * 4294967296 + l0 = Y * Q0 + R := by rw [hQ0, hR]; exact (Nat.div_add_mod _ _).symm
  have fin := DivA.whole hi lo y s u l1 l0 Y Q1 Q0 R (by omega) (by omega) hu (by rw [hll, hl]) hY hQ1 (by rw [← hU]; exact hQ0) (by rw [← hU]; exact hR)
  have c2 : ((2 : Int) ^ s) = ((2 ^ s : Nat) : Int) := by rw [Int.natCast_pow]; rfl
  have c3 : ((2 : Int) ^ (64 - s)) = ((2 ^ (64 - s) : Nat) : Int) := by rw [Int.natCast_pow]; rfl
  have hlow : ∀ x : Nat, x / a * a ≤ x := fun x => Nat.div_mul_le_self x a
  have hqle : ∀ x : Nat, x / a ≤ x := fun x => Nat.div_le_self x a
  have c := div64_1 hi lo y s Y l (hi * 2 ^ s) a b l1 l0 u (u / a) (u / a * a) (u % a) Q1 (u * 4294967296 % 18446744073709551616) ((u * 4294967296 % 18446744073709551616 + l1) % 18446744073709551616) (Q1 * Y % 18446744073709551616) U (U / a) (U / a * a) (U % a) Q0 (U * 4294967296 % 18446744073709551616) ((U * 4294967296 % 18446744073709551616 + l0) % 18446744073709551616) (Q0 * Y % 18446744073709551616) (Q1 * 4294967296) (Q1 * 4294967296 + Q0) R
   hy (by omega) hlt (Lib.hid hs) (by omega)
   (by rw [c2, ← Int.natCast_mul, ← hY]; exact wrap_le Y hY1) (by rw [c2, ← Int.natCast_mul, hl]; exact wrap_mod _) (by rw [c2, ← Int.natCast_mul]; exact wrap_le _ (by omega))
   (by omega) (by rw [hb]; exact Mul64.maskN Y hY1) (by omega) (by rw [hl0]; exact Mul64.maskN l hl64)
   (by rw [IntKind.wrap_u64]; omega) (by rw [c3, ← Int.natCast_ediv, hu]; exact or_add hi _ s hx (by omega) (by omega))
   (Int.natCast_ediv u a).symm (wrap_le _ (by have := hqle u; omega)) (wrap_le _ (by have := hqle U; omega)) (by rw [← Int.natCast_mul]; exact wrap_le _ (by have := hlow u; omega)) (sub_mod u a (by omega))
   (by exact wrap_mod (u * 4294967296)) (by rw [← Int.natCast_add]; exact wrap_mod _) (by rw [← Int.natCast_mul]; exact wrap_mod _) (left_behind u l1 Q1 Y U (by omega) hdm1)
   (Int.natCast_ediv U a).symm (by rw [← Int.natCast_mul]; exact wrap_le _ (by have := hlow U; omega)) (sub_mod U a (by omega))
   (by exact wrap_mod (U * 4294967296)) (by rw [← Int.natCast_add]; exact wrap_mod _) (by rw [← Int.natCast_mul]; exact wrap_mod _) (left_behind U l0 Q0 Y R (by omega) hdm0)
   (by exact wrap_le (Q1 * 4294967296) (by omega)) (by rw [← Int.natCast_add]; exact wrap_le _ (by omega))
   (by rw [hQ1, ← hab]; exact dig_start u l1 a b (by omega) (by omega) hl11) (by rw [hQ0, ← hab]; exact dig_start U l0 a b (by omega) (by omega) hl01)
   (Lib.hid (by rw [hab]; exact hQ1)) (Lib.hid (by rw [hab]; exact hQ0)) (Lib.hid (by omega)) (Lib.hid (by omega)) ha1 hb1 hl11 hl01 ha0 w
  refine c.mono ?_
  rintro e w' ⟨rfl, rfl⟩
  refine ⟨?_, Grown.refl _⟩
  rw [fin.1, c2, ← Int.natCast_ediv, fin.2]
def I64 (v : Int) : Prop := -9223372036854775808 ≤ v ∧ v < 9223372036854775808
instance (v : Int) : Decidable (I64 v) := inferInstanceAs (Decidable (_ ∧ _))
def rv (v : Int) : Int := if I64 v then v else 0
def re (v : Int) : Int := if I64 v then 0 else 3
def mag (a : Int) : Int := if a < 0 then -a else a
def qs (P c : Int) (neg : Bool) : Int := if neg then -((P + c - 1) / c) else P / c

theorem mag_any (a : Int) (h : I64 a) (w : World) :
 Calls Tryz.prog 104 #[.int .i64 a] w fun e w' => e = .returned (.int .u64 (mag a)) ∧ w = w' := by
 obtain ⟨h1, h2⟩ := h
 by_cases c : a < 0
 ·have e1 : IntKind.u64.wrap (wrap64 (-a)) = -a := by rw [IntKind.wrap_u64]; unfold wrap64; omega
  have e2 : mag a = -a := by unfold mag; rw [if_pos c]
  rw [e2]
  go_enter Tryz.func104, Tryz.ntmps104
  go_wp2
  go_ret
  exact ⟨rfl, rfl⟩
 ·have e1 : IntKind.u64.wrap a = a := by simp only [IntKind.wrap_u64]; omega
  have e2 : mag a = a := by unfold mag; rw [if_neg c]
  rw [e2]
  go_enter Tryz.func104, Tryz.ntmps104
  go_wp2
  go_ret
  exact ⟨rfl, rfl⟩

def bor (x : Int) : Int := if 0 < x then 1 else 0

theorem sub0 (y : Int) (hy : 0 ≤ y) (hy' : y < 18446744073709551616) (w : World) : (callFunc 163 #[.int .u64 0, .int .u64 y, .int .u64 0]).run Tryz.prog w =
 .ok (.value (.tuple #[.int .u64 ((-y) % 18446744073709551616), .int .u64 (bor y)])) w := by
 have h := sub64 0 y 0 (by omega) hy hy' (by omega) (by omega) w
 simpa [bor] using h

theorem sub0b (y b : Int) (hy : 0 ≤ y) (hy' : y < 18446744073709551616) (hb0 : 0 ≤ b) (hb : b ≤ 1) (w : World) : (callFunc 163 #[.int .u64 0, .int .u64 y, .int .u64 b]).run Tryz.prog w =
 .ok (.value (.tuple #[.int .u64 ((-y - b) % 18446744073709551616), .int .u64 (bor (y + b))])) w := by
 have h := sub64 0 y b (by omega) hy hy' hb0 hb w
 simpa [bor] using h

theorem neg_no (h l : Int) (a : Addr) (w : World) (hc : w.cell? a = some (.bool false)) :
 Calls Tryz.prog 162 #[.int .u64 h, .int .u64 l, .pointer (some a)] w fun e w' => e = .returned (.tuple #[.int .u64 h, .int .u64 l]) ∧ w = w' := by
 go_enter Tryz.func162, Tryz.ntmps162
 go_wp2
 go_ret2
 exact ⟨rfl, rfl⟩

theorem neg_yes (h l : Int) (a : Addr) (w : World) (hc : w.cell? a = some (.bool true)) (h0 : 0 ≤ h) (h1 : h < 18446744073709551616) (l0 : 0 ≤ l) (l1 : l < 18446744073709551616) :
 Calls Tryz.prog 162 #[.int .u64 h, .int .u64 l, .pointer (some a)] w fun e w' => e = .returned (.tuple #[.int .u64 ((-h - bor l) % 18446744073709551616), .int .u64 ((-l) % 18446744073709551616)]) ∧ w = w' := by
 have b0 : 0 ≤ bor l := by unfold bor; split <;> decide
 have b1 : bor l ≤ 1 := by unfold bor; split <;> decide
 go_enter Tryz.func162, Tryz.ntmps162
 go_wp2_with (first | simp only [sub0 l l0 l1] | simp only [sub0b h (bor l) h0 h1 b0 b1])
 go_ret2
 exact ⟨rfl, rfl⟩

theorem negs_any (n : Bool) (w : World) :
 Calls Tryz.prog 130 #[.bool n] w fun e w' => e = .returned (.func (.func 162) #[] #[.pointer (some ⟨w.heap.size, 0, none⟩)]) ∧ w' = w.alloc (.cells #[.bool n] 4) := by
 have hmf : ∀ (fn : Fn) (first cap : Array Value) (w : World), (Instr.makeFunc fn first cap).run Tryz.prog w = .ok (.func fn first cap) w := fun _ _ _ _ => rfl
 go_enter Tryz.func130, Tryz.ntmps130
 go_wp2
 go_ret
 exact ⟨rfl, rfl⟩

theorem mul64i (x y H L : Int) (hx0 : 0 ≤ x) (hx : x < 18446744073709551616) (hy0 : 0 ≤ y) (hy : y < 18446744073709551616) (h : Hid (H = x * y / 18446744073709551616 ∧ L = x * y % 18446744073709551616)) (w : World) :
 Calls Tryz.prog 127 #[.int .u64 x, .int .u64 y] w fun e w' => e = .returned (.tuple #[.int .u64 H, .int .u64 L]) ∧ w = w' := by
 obtain ⟨rfl, rfl⟩ := h.out
 obtain ⟨x, rfl⟩ := Int.eq_ofNat_of_zero_le hx0
 obtain ⟨y, rfl⟩ := Int.eq_ofNat_of_zero_le hy0
 exact mul64 x y (by omega) (by omega) w

theorem div64i (hi lo y q : Int) (h0 : 0 ≤ hi) (l0 : 0 ≤ lo) (l1 : lo < 18446744073709551616) (y1 : y < 18446744073709551616) (hlt : hi < y) (h : Hid (q = (hi * 18446744073709551616 + lo) / y)) (w : World) :
 Calls Tryz.prog 129 #[.int .u64 hi, .int .u64 lo, .int .u64 y] w fun e w' => (∃ r : Int, e = .returned (.tuple #[.int .u64 q, .int .u64 r])) ∧ Grown w w' := by
 obtain rfl := h.out
 obtain ⟨hi, rfl⟩ := Int.eq_ofNat_of_zero_le h0
 obtain ⟨lo, rfl⟩ := Int.eq_ofNat_of_zero_le l0
 obtain ⟨y, rfl⟩ := Int.eq_ofNat_of_zero_le (show 0 ≤ y by omega)
 refine (div64 hi lo y (by omega) (by omega) (by omega) w).mono ?_
 rintro e w' ⟨rfl, g⟩
 exact ⟨⟨_, rfl⟩, g⟩

theorem neg0 (n : Bool) (l X Y : Int) (a : Addr) (w : World) (hc : w.cell? a = some (.bool n)) (l0 : 0 ≤ l) (l1 : l < 18446744073709551616)
 (h : Hid (X = (if n then (-bor l) % 18446744073709551616 else 0) ∧ Y = (if n then (-l) % 18446744073709551616 else l))) :
 Calls Tryz.prog 162 #[.int .u64 0, .int .u64 l, .pointer (some a)] w fun e w' => e = .returned (.tuple #[.int .u64 X, .int .u64 Y]) ∧ w = w' := by
 obtain ⟨rfl, rfl⟩ := h.out
 cases n
 ·exact neg_no 0 l a w hc
 ·have := neg_yes 0 l a w hc (by omega) (by omega) l0 l1
  simpa using this

theorem quot_no_big (a b c H L : Int) (ha0 : 0 ≤ a) (ha : a < 18446744073709551616) (hb0 : 0 ≤ b) (hb : b < 18446744073709551616) (h : Hid (H = a * b / 18446744073709551616 ∧ L = a * b % 18446744073709551616)) (hc : c ≤ H) (w : World) :
 Calls Tryz.prog 103 #[.int .u64 a, .int .u64 b, .int .u64 c, .bool false] w fun e w' => e = .returned (.tuple #[.int .i64 0, .int .i64 3]) ∧ Grown w w' := by
 go_enter Tryz.func103, Tryz.ntmps103
 go_wp2_with (go_at_call 127; refine (mul64i a b H L ha0 ha hb0 hb h _).mono ?_; rintro e w' ⟨rfl, rfl⟩)
 go_ret2
 exact ⟨rfl, Grown.refl _⟩

theorem rv_in {v : Int} (h : I64 v) : rv v = v := if_pos h
theorem re_in {v : Int} (h : I64 v) : re v = 0 := if_pos h
theorem rv_out {v : Int} (h : ¬ I64 v) : rv v = 0 := if_neg h
theorem re_out {v : Int} (h : ¬ I64 v) : re v = 3 := if_neg h

theorem quot_no (a b c H L q : Int) (ha0 : 0 ≤ a) (ha : a < 18446744073709551616) (hb0 : 0 ≤ b) (hb : b < 18446744073709551616) (h : Hid (H = a * b / 18446744073709551616 ∧ L = a * b % 18446744073709551616)) (hc : H < c) (hc1 : c < 18446744073709551616)
 (hH : 0 ≤ H) (hL : 0 ≤ L) (hL1 : L < 18446744073709551616) (hq : Hid (q = (H * 18446744073709551616 + L) / c)) (hq0 : 0 ≤ q) (hq1 : q < 18446744073709551616) (w : World) :
 Calls Tryz.prog 103 #[.int .u64 a, .int .u64 b, .int .u64 c, .bool false] w fun e w' => e = .returned (.tuple #[.int .i64 (rv q), .int .i64 (re q)]) ∧ Grown w w' := by
 by_cases hs : q < 9223372036854775808
 ·rw [rv_in ⟨by omega, hs⟩, re_in ⟨by omega, hs⟩]
  have e1 : (0 != q / 9223372036854775808) = false := by simp; omega
  have e2 : wrap64 q = q := by unfold wrap64; omega
  go_enter Tryz.func103, Tryz.ntmps103
  go_wp2_with (first
   | (go_at_call 127; refine (mul64i a b H L ha0 ha hb0 hb h _).mono ?_; rintro e w' ⟨rfl, rfl⟩)
   | (go_at_call 129; refine (div64i H L c q hH hL hL1 hc1 hc hq _).mono ?_; rintro e w1 ⟨⟨r, rfl⟩, hg⟩)
   | (go_at_call 130; refine (negs_any _ _).mono ?_; rintro e w2 ⟨rfl, rfl⟩)
   | (go_at_call 162; refine (neg0 false q 0 q _ _ (by simp [World.cell?_alloc_new]) hq0 hq1 (Lib.hid ⟨rfl, rfl⟩)).mono ?_; rintro e w' ⟨rfl, rfl⟩))
  go_ret2
  exact ⟨rfl, hg.alloc _ _⟩
 ·have hn : ¬ I64 q := fun h => hs h.2
  rw [rv_out hn, re_out hn]
  obtain ⟨x, hx⟩ : ∃ x, x = wrap64 q := ⟨_, rfl⟩
  have e1 : x / 9223372036854775808 = -1 := by unfold wrap64 at hx; omega
  have e2 : wrap64 q = x := hx.symm
  clear hx hn
  go_enter Tryz.func103, Tryz.ntmps103
  go_wp2_with (first
   | (go_at_call 127; refine (mul64i a b H L ha0 ha hb0 hb h _).mono ?_; rintro e w' ⟨rfl, rfl⟩)
   | (go_at_call 129; refine (div64i H L c q hH hL hL1 hc1 hc hq _).mono ?_; rintro e w1 ⟨⟨r, rfl⟩, hg⟩)
   | (go_at_call 130; refine (negs_any _ _).mono ?_; rintro e w2 ⟨rfl, rfl⟩)
   | (go_at_call 162; refine (neg0 false q 0 q _ _ (by simp [World.cell?_alloc_new]) hq0 hq1 (Lib.hid ⟨rfl, rfl⟩)).mono ?_; rintro e w' ⟨rfl, rfl⟩))
  go_ret2
  exact ⟨rfl, hg.alloc _ _⟩

theorem add0 (x y S C : Int) (hx : 0 ≤ x) (hy : 0 ≤ y) (h : Hid (S = (x + y) % 18446744073709551616 ∧ C = (x + y) / 18446744073709551616)) (w : World) : (callFunc 128 #[.int .u64 x, .int .u64 y, .int .u64 0]).run Tryz.prog w =
 .ok (.value (.tuple #[.int .u64 S, .int .u64 C])) w := by
 obtain ⟨rfl, rfl⟩ := h.out
 simpa using add64 x y 0 hx hy (Int.le_refl 0) (by decide) w

theorem quot_yes_big (a b c H L d S C T : Int) (ha0 : 0 ≤ a) (ha : a < 18446744073709551616) (hb0 : 0 ≤ b) (hb : b < 18446744073709551616) (h : Hid (H = a * b / 18446744073709551616 ∧ L = a * b % 18446744073709551616))
 (hd : IntKind.u64.wrap (c - 1) = d) (hd0 : 0 ≤ d) (hL : 0 ≤ L) (hS : Hid (S = (L + d) % 18446744073709551616 ∧ C = (L + d) / 18446744073709551616)) (hT : IntKind.u64.wrap (H + C) = T) (hc : c ≤ T) (w : World) :
 Calls Tryz.prog 103 #[.int .u64 a, .int .u64 b, .int .u64 c, .bool true] w fun e w' => e = .returned (.tuple #[.int .i64 0, .int .i64 3]) ∧ Grown w w' := by
 go_enter Tryz.func103, Tryz.ntmps103
 go_wp2_with (first
  | (go_at_call 127; refine (mul64i a b H L ha0 ha hb0 hb h _).mono ?_; rintro e w' ⟨rfl, rfl⟩)
  | simp only [add0 L d S C hL hd0 hS])
 go_ret2
 exact ⟨rfl, Grown.refl _⟩

theorem quot_yes (a b c H L d S C T q X Y x y z r1 r2 : Int) (ha0 : 0 ≤ a) (ha : a < 18446744073709551616) (hb0 : 0 ≤ b) (hb : b < 18446744073709551616) (h : Hid (H = a * b / 18446744073709551616 ∧ L = a * b % 18446744073709551616))
 (hd : IntKind.u64.wrap (c - 1) = d) (hd0 : 0 ≤ d) (hL : 0 ≤ L) (hS : Hid (S = (L + d) % 18446744073709551616 ∧ C = (L + d) / 18446744073709551616)) (hT : IntKind.u64.wrap (H + C) = T) (hc : T < c) (hc1 : c < 18446744073709551616)
 (hT0 : 0 ≤ T) (hS0 : 0 ≤ S) (hS1 : S < 18446744073709551616) (hq : Hid (q = (T * 18446744073709551616 + S) / c)) (hq0 : 0 ≤ q) (hq1 : q < 18446744073709551616)
 (hXY : Hid (X = (-bor q) % 18446744073709551616 ∧ Y = (-q) % 18446744073709551616)) (hx : wrap64 X = x) (hy : wrap64 Y = y) (hz : y / 9223372036854775808 = z)
 (hr : ((x != z) = false ∧ r1 = y ∧ r2 = 0) ∨ ((x != z) = true ∧ r1 = 0 ∧ r2 = 3)) (w : World) :
 Calls Tryz.prog 103 #[.int .u64 a, .int .u64 b, .int .u64 c, .bool true] w fun e w' => e = .returned (.tuple #[.int .i64 r1, .int .i64 r2]) ∧ Grown w w' := by
 rcases hr with ⟨hxz, rfl, rfl⟩ | ⟨hxz, rfl, rfl⟩
 all_goals
  go_enter Tryz.func103, Tryz.ntmps103
  go_wp2_with (first
   | (go_at_call 127; refine (mul64i a b H L ha0 ha hb0 hb h _).mono ?_; rintro e w' ⟨rfl, rfl⟩)
   | simp only [add0 L d S C hL hd0 hS]
   | (go_at_call 129; refine (div64i T S c q hT0 hS0 hS1 hc1 hc hq _).mono ?_; rintro e w1 ⟨⟨r, rfl⟩, hg⟩)
   | (go_at_call 130; refine (negs_any _ _).mono ?_; rintro e w2 ⟨rfl, rfl⟩)
   | (go_at_call 162; refine (neg0 true q X Y _ _ (by simp [World.cell?_alloc_new]) hq0 hq1 (Lib.hid (by simpa using hXY.out))).mono ?_; rintro e w' ⟨rfl, rfl⟩))
  go_ret2
  exact ⟨by first | rfl | exact congrArg (fun v => Ending.returned (.tuple #[.int .i64 v, .int .i64 0])) hy, hg.alloc _ _⟩

theorem quot_any (a b c : Int) (n : Bool) (ha0 : 0 ≤ a) (ha : a ≤ 9223372036854775808) (hb0 : 0 ≤ b) (hb : b ≤ 9223372036854775808) (hc0 : 0 < c) (hc : c ≤ 9223372036854775808) (w : World) :
 Calls Tryz.prog 103 #[.int .u64 a, .int .u64 b, .int .u64 c, .bool n] w fun e w' => e = .returned (.tuple #[.int .i64 (rv (qs (a * b) c n)), .int .i64 (re (qs (a * b) c n))]) ∧ Grown w w' := by
 obtain ⟨P, hP⟩ : ∃ P, P = a * b := ⟨_, rfl⟩
 have hP0 : 0 ≤ P := by rw [hP]; exact Int.mul_nonneg ha0 hb0
 have hP1 : P ≤ 9223372036854775808 * 9223372036854775808 := by rw [hP]; exact Int.mul_le_mul ha hb hb0 (by omega)
 obtain ⟨H, hH⟩ : ∃ H, H = P / 18446744073709551616 := ⟨_, rfl⟩
 obtain ⟨L, hL⟩ : ∃ L, L = P % 18446744073709551616 := ⟨_, rfl⟩
 have hHL : Hid (H = a * b / 18446744073709551616 ∧ L = a * b % 18446744073709551616) := Lib.hid (by rw [← hP]; exact ⟨hH, hL⟩)
 rw [← hP]
 cases n
 ·have eq : qs P c false = P / c := rfl
  rw [eq]
  by_cases hb : c ≤ H
  ·have hn : ¬ I64 (P / c) := by
    intro h
    have := (Int.ediv_lt_iff_lt_mul hc0).1 h.2
    omega
   rw [rv_out hn, re_out hn]
   exact quot_no_big a b c H L ha0 (by omega) hb0 (by omega) hHL hb w
  ·have h1 : P / c < 18446744073709551616 := (Int.ediv_lt_iff_lt_mul hc0).2 (by omega)
   have h0 : 0 ≤ P / c := Int.ediv_nonneg hP0 (by omega)
   exact quot_no a b c H L (P / c) ha0 (by omega) hb0 (by omega) hHL (by omega) (by omega) (by omega) (by omega) (by omega) (Lib.hid (by congr 1; omega)) h0 h1 w
 ·have eq : qs P c true = -((P + c - 1) / c) := rfl
  rw [eq]
  obtain ⟨S, hS⟩ : ∃ S, S = (L + (c - 1)) % 18446744073709551616 := ⟨_, rfl⟩
  obtain ⟨C, hC⟩ : ∃ C, C = (L + (c - 1)) / 18446744073709551616 := ⟨_, rfl⟩
  obtain ⟨T, hT⟩ : ∃ T, T = H + C := ⟨_, rfl⟩
  have hTS : T * 18446744073709551616 + S = P + c - 1 := by omega
  have wd : IntKind.u64.wrap (c - 1) = c - 1 := by rw [IntKind.wrap_u64]; omega
  have wT : IntKind.u64.wrap (H + C) = T := by rw [IntKind.wrap_u64]; omega
  by_cases hb : c ≤ T
  ·have hn : ¬ I64 (-((P + c - 1) / c)) := by
    intro h
    have h2 : (P + c - 1) / c < 9223372036854775809 := by have := h.1; omega
    have := (Int.ediv_lt_iff_lt_mul hc0).1 h2
    omega
   rw [rv_out hn, re_out hn]
   exact quot_yes_big a b c H L (c - 1) S C T ha0 (by omega) hb0 (by omega) hHL wd (by omega) (by omega) (Lib.hid ⟨hS, hC⟩) wT hb w
  ·have h1 : (P + c - 1) / c < 18446744073709551616 := (Int.ediv_lt_iff_lt_mul hc0).2 (by omega)
   have h0 : 0 ≤ (P + c - 1) / c := Int.ediv_nonneg (by omega) (by omega)
   obtain ⟨q, hq⟩ : ∃ q, q = (P + c - 1) / c := ⟨_, rfl⟩
   rw [← hq] at h0 h1 ⊢
   refine quot_yes a b c H L (c - 1) S C T q ((-bor q) % 18446744073709551616) ((-q) % 18446744073709551616) _ _ _ _ _ ha0 (by omega) hb0 (by omega) hHL wd (by omega) (by omega) (Lib.hid ⟨hS, hC⟩) wT (by omega) (by omega)
    (by omega) (by omega) (by omega) (Lib.hid (by rw [hTS]; exact hq)) h0 h1 (Lib.hid ⟨rfl, rfl⟩) rfl rfl rfl ?_ w
   by_cases hr : q ≤ 9223372036854775808
   ·left
    rw [rv_in ⟨by omega, by omega⟩, re_in ⟨by omega, by omega⟩]
    refine ⟨?_, ?_, rfl⟩
    ·unfold bor wrap64; split <;> (simp; omega)
    ·unfold wrap64; omega
   ·right
    have hn : ¬ I64 (-q) := fun h => hr (by have := h.1; omega)
    rw [rv_out hn, re_out hn]
    refine ⟨?_, rfl, rfl⟩
    unfold bor wrap64; split <;> (simp; omega)
theorem I64.mag0 {a : Int} (h : I64 a) : 0 ≤ mag a ∧ mag a ≤ 9223372036854775808 := by
 unfold mag; obtain ⟨h1, h2⟩ := h; split <;> omega
theorem mag_mul (a b : Int) : mag a * mag b = if (decide (a < 0) != decide (b < 0)) then -(a * b) else a * b := by
 unfold mag
 by_cases h1 : a < 0 <;> by_cases h2 : b < 0 <;> simp [h1, h2, Int.neg_mul, Int.mul_neg]

def fl (n c : Int) : Int := if c < 0 then (-n) / (-c) else n / c
def mdv (a b c : Int) : Int := if c = 0 then 0 else rv (fl (a * b) c)
def mde (a b c : Int) : Int := if c = 0 then 2 else re (fl (a * b) c)
def msv (a b n : Int) : Int := if n < 0 ∨ 63 < n then 0 else rv (a * b / 2 ^ n.toNat)
def mse (a b n : Int) : Int := if n < 0 ∨ 63 < n then 1 else re (a * b / 2 ^ n.toNat)

theorem ceil_neg (P c : Int) (hc : 0 < c) : -((P + c - 1) / c) = (-P) / c := by
 apply Eq.symm
 rw [Int.ediv_eq_iff_of_pos hc]
 have h := Int.ediv_mul_add_emod (P + c - 1) c
 have h1 := Int.emod_nonneg (P + c - 1) (show c ≠ 0 by omega)
 have h2 := Int.emod_lt_of_pos (P + c - 1) hc
 rw [Int.neg_mul]
 omega

theorem qs_fl (a b c : Int) (hc : c ≠ 0) : qs (mag a * mag b) (mag c) ((decide (a < 0) != decide (b < 0)) != decide (c < 0)) = fl (a * b) c := by
 have hm := mag_mul a b
 obtain ⟨P, hP⟩ : ∃ P, P = mag a * mag b := ⟨_, rfl⟩
 rw [← hP] at hm ⊢
 obtain ⟨s, hs⟩ : ∃ s : Bool, s = (decide (a < 0) != decide (b < 0)) := ⟨_, rfl⟩
 rw [← hs] at hm ⊢
 clear hs hP
 unfold fl mag
 by_cases h : c < 0
 ·rw [if_pos h, if_pos h]
  cases s
  ·have e : P = a * b := by simpa using hm
   rw [← e]
   simp only [h, decide_true, Bool.false_bne, qs, if_true]
   exact ceil_neg P (-c) (by omega)
  ·have e : P = -(a * b) := by simpa using hm
   rw [← e]
   simp [h, qs]
 ·rw [if_neg h, if_neg h]
  cases s
  ·have e : P = a * b := by simpa using hm
   rw [← e]
   simp [h, qs]
  ·have e : P = -(a * b) := by simpa using hm
   have e2 : a * b = -P := by omega
   rw [e2]
   simp only [h, decide_false, Bool.bne_false, qs, if_true]
   exact ceil_neg P c (by omega)

theorem qs_shift (a b d : Int) (hd : 0 < d) : qs (mag a * mag b) d (decide (a < 0) != decide (b < 0)) = a * b / d := by
 have h := qs_fl a b d (by omega)
 have h1 : ¬ d < 0 := by omega
 have e : mag d = d := by unfold mag; rw [if_neg h1]
 rw [e] at h
 simpa [h1, fl] using h

theorem muldiv_any (a b c : Int) (ha : I64 a) (hb : I64 b) (hc : I64 c) (w : World) :
 Calls Tryz.prog 81 #[.int .i64 a, .int .i64 b, .int .i64 c] w fun e w' => e = .returned (.tuple #[.int .i64 (mdv a b c), .int .i64 (mde a b c)]) ∧ Grown w w' := by
 by_cases h0 : c = 0
 ·subst h0
  have e1 : mdv a b 0 = 0 := rfl
  have e2 : mde a b 0 = 2 := rfl
  rw [e1, e2]
  go_enter Tryz.func81, Tryz.ntmps81
  go_wp2
  go_ret2
  exact ⟨rfl, Grown.refl _⟩
 ·have e1 : mdv a b c = rv (fl (a * b) c) := if_neg h0
  have e2 : mde a b c = re (fl (a * b) c) := if_neg h0
  rw [e1, e2, ← qs_fl a b c h0]
  clear e1 e2
  have a0 := ha.mag0; have b0 := hb.mag0; have c0 := hc.mag0
  have c1 : 0 < mag c := by unfold mag; split <;> omega
  go_enter Tryz.func81, Tryz.ntmps81
  go_wp2_with (first
   | (go_at_call_of 104 (Value.int IntKind.i64 a); refine (mag_any a ha _).mono ?_; rintro e w' ⟨rfl, rfl⟩)
   | (go_at_call_of 104 (Value.int IntKind.i64 b); refine (mag_any b hb _).mono ?_; rintro e w' ⟨rfl, rfl⟩)
   | (go_at_call_of 104 (Value.int IntKind.i64 c); refine (mag_any c hc _).mono ?_; rintro e w' ⟨rfl, rfl⟩)
   | (go_at_call 103; refine (quot_any (mag a) (mag b) (mag c) _ a0.1 a0.2 b0.1 b0.2 c1 c0.2 _).mono ?_; rintro e w1 ⟨rfl, hg⟩))
  go_ret2
  exact ⟨rfl, hg⟩
def I32 (v : Int) : Prop := -2147483648 ≤ v ∧ v < 2147483648
def lim (n l : Int) : Int := max (-l) (min n l)

theorem ik64 (a : Int) (h1 : -9223372036854775808 ≤ a := by decide) (h2 : a < 9223372036854775808 := by decide) : I64 a := ⟨h1, h2⟩
theorem I32.i64 {n : Int} (h : I32 n) : I64 n := by obtain ⟨h1, h2⟩ := h; exact ⟨by omega, by omega⟩

theorem limit_any (n l : Int) (h : I64 n) (h0 : 0 ≤ l) (h3 : l < 9223372036854775808) (w : World) :
 Calls Tryz.prog 77 #[.int .i64 n, .int .i64 l] w fun e w' => e = .returned (.tuple #[.int .i64 (lim n l), .bool (lim n l != n)]) ∧ w = w' := by
 obtain ⟨h1, h2⟩ := h
 go_enter Tryz.func77, Tryz.ntmps77
 go_wp2
 go_ret2
 exact ⟨rfl, rfl⟩

theorem mul32 {a b : Int} (ha : I32 a) (hb : I32 b) : -4611686018427387904 ≤ a * b ∧ a * b ≤ 4611686018427387904 := by
 obtain ⟨h1, h2⟩ := ha; obtain ⟨h3, h4⟩ := hb
 have k : ∀ x y : Int, 0 ≤ x → x ≤ 2147483648 → 0 ≤ y → y ≤ 2147483648 → 0 ≤ x * y ∧ x * y ≤ 4611686018427387904 := fun x y a b c d =>
  ⟨Int.mul_nonneg a c, Int.mul_le_mul b d c (by omega)⟩
 by_cases c : a < 0 <;> by_cases d : b < 0
 ·have := k (-a) (-b) (by omega) (by omega) (by omega) (by omega); rw [Int.neg_mul_neg] at this; omega
 ·have := k (-a) b (by omega) (by omega) (by omega) (by omega); rw [Int.neg_mul] at this; omega
 ·have := k a (-b) (by omega) (by omega) (by omega) (by omega); rw [Int.mul_neg] at this; omega
 ·have := k a b (by omega) (by omega) (by omega) (by omega); omega
theorem grown_trans {a b c : World} (h1 : Grown a b) (h2 : Grown b c) : Grown a c :=
 ⟨World.keptBut_trans h1.1 h2.1, fun a => (h2.2.1 a).trans (h1.2.1 a), Nat.le_trans h1.2.2 h2.2.2⟩
theorem gcell {W w1 : World} (g : Grown W w1) : (∀ b o, b < W.heap.size → w1.cell? ⟨b, o, none⟩ = W.cell? ⟨b, o, none⟩) ∧ (∀ b o, w1.frozen? ⟨b, o, none⟩ = W.frozen? ⟨b, o, none⟩) ∧ W.heap.size ≤ w1.heap.size :=
 ⟨fun _ _ h => g.1.cell h (fun x => x), fun b o => g.2.1 ⟨b, o, none⟩, g.2.2⟩
theorem kept_cell {W w1 : World} (g : Grown W w1) {b o : Nat} {v : Value} (h : W.cell? ⟨b, o, none⟩ = some v) : w1.cell? ⟨b, o, none⟩ = some v := by
 rw [(gcell g).1 b o (World.block_lt_of_cell? _ _ h)]; exact h
theorem kept_frozen {W w1 : World} (g : Grown W w1) {b o : Nat} (h : W.frozen? ⟨b, o, none⟩ = false) : w1.frozen? ⟨b, o, none⟩ = false := by
 rw [(gcell g).2.1 b o]; exact h
theorem setc_far {W : World} {p a : Addr} {v u : Value} (h : W.cell? a = some u) (c : p.block ≠ a.block) : (W.setCell p v).cell? a = some u := by
 rw [World.cell?_setCell_far _ _ _ _ c]; exact h
end Go.Proofs.YtaknmlohnifcdaaGreatDoor
section
namespace Go.Proofs.YtaknmlohnifcdaaGreatDoor
open Go.RowKit

structure Kep (B : Nat) (w w' : World) : Prop where
 os : w'.os = w.os
 output : w'.output = w.output
 size : w.heap.size ≤ w'.heap.size
 block : ∀ k, k < B → w'.heap[k]? = w.heap[k]?

theorem Kep.refl (B : Nat) (w : World) : Kep B w w := ⟨rfl, rfl, Nat.le_refl _, fun _ _ => rfl⟩
theorem Kep.trans {B : Nat} {a b c : World} (h : Kep B a b) (k : Kep B b c) : Kep B a c := ⟨k.os.trans h.os, k.output.trans h.output, Nat.le_trans h.size k.size, fun i hi => (k.block i hi).trans (h.block i hi)⟩
theorem Kep.mono {B B' : Nat} {w w' : World} (h : Kep B w w') (hB : B' ≤ B) : Kep B' w w' := ⟨h.os, h.output, h.size, fun k hk => h.block k (by omega)⟩
theorem Kep.of_below {B : Nat} {w w' : World} (h : Below B w w') : Kep B w w' := ⟨h.os, h.output, h.size, h.block⟩
theorem Kep.drew {B : Nat} {a w : World} (h : Kep B a w) : Kep B a w.drew := ⟨h.os, h.output, h.size, h.block⟩
theorem Kep.alloc {B : Nat} {a w : World} (h : Kep B a w) (hB : B ≤ w.heap.size) (o : Obj) : Kep B a (w.alloc o) := h.trans (Kep.of_below ((Below.refl _ _).alloc hB o))
theorem Kep.setCell {B : Nat} {a w : World} (h : Kep B a w) {p : Addr} (hp : B ≤ p.block) (u : Value) : Kep B a (w.setCell p u) := h.trans (Kep.of_below ((Below.refl _ _).setCell hp u))
theorem Kep.row {B : Nat} {a w w' : World} {row : Option Nat} (h : Kep B a w) (hg : w.grownBy w' row) (hB : B ≤ w.heap.size) (hr : ∀ k, row = some k → B ≤ k) : Kep B a w' := h.trans (Kep.of_below ((Below.refl _ _).grown hg hB hr))
theorem Kep.of_grown {w w' : World} (h : Grown w w') : Kep w.heap.size w w' := by
 obtain ⟨⟨h1, h2, h3⟩, _, h4⟩ := h
 refine ⟨h1, h2, h4, fun k hk => ?_⟩
 have g := h3 k hk
 split at g
 ·rename_i c t fr c' t' fr' e e'
  obtain ⟨rfl, rfl, hs, hc⟩ := g
  rw [e, e']
  have : c' = c := Array.ext_getElem? fun j => hc j (fun x => x)
  rw [this]
 ·rename_i es clock es' clock' e e'
  rw [e, e']
  rcases g with g | ⟨rfl, rfl⟩
  ·exact g.elim
  ·rfl
 ·exact g
theorem Kep.cell {B : Nat} {w w' : World} (h : Kep B w w') {p : Addr} (hp : p.block < B) : w'.cell? p = w.cell? p := World.cell?_of_block (w := w) (h.block p.block hp)
theorem Kep.frozen {B : Nat} {w w' : World} (h : Kep B w w') {p : Addr} (hp : p.block < B) : w'.frozen? p = w.frozen? p := World.frozen?_of_block (w := w) (h.block p.block hp)
theorem Kep.holds {B : Nat} {w w' : World} (h : Kep B w w') {b o : Nat} {v : Value} (hp : b < B) (hv : w.cell? ⟨b, o, none⟩ = some v) : w'.cell? ⟨b, o, none⟩ = some v := (h.cell (p := ⟨b, o, none⟩) hp).trans hv
theorem Kep.all {w w' : World} (h : Kep w.heap.size w w') {a : Addr} {v : Value} (hv : w.cell? a = some v) : w'.cell? a = some v := (h.cell (World.block_lt_of_cell? _ _ hv)).trans hv
theorem Kep.frame {W w' : World} (h : Kep W.heap.size W w') (may : MemPlace → Prop) : W.keptBut w' may := by
 refine ⟨h.os, h.output, fun i hi => ?_⟩
 rw [h.block i hi]
 split <;> simp_all
end Go.Proofs.YtaknmlohnifcdaaGreatDoor
end
section
namespace Go.Proofs.YtaknmlohnifcdaaGreatDoor
open Go.ChangeShapes Go.WideShapes Go.ChangeAt Go.RowKit Go.Joins

theorem cells_body : Tryz.prog.cellsOf 40 = 10 := by kernel_rfl
theorem cells_vec : Tryz.prog.cellsOf 38 = 2 := by kernel_rfl
theorem cells_u32 : Tryz.prog.cellsOf 36 = 1 := by kernel_rfl
theorem cells_i32 : Tryz.prog.cellsOf 21 = 1 := by kernel_rfl

section
variable {H : Type} {enc : TypeId × Value → H} {W : World} {base : Nat} {spare : Nat → Bool} {held : Bool}
theorem open_vec {n : Nat} {c0 c1 : Value} {y : DataW H × List MemPlace} (h : DataW.trod enc Tryz.prog W base spare held n 38 [c0, c1] = some y) :
 ∃ a b : Int, c0 = .int .i32 a ∧ c1 = .int .i32 b ∧ y = (.agg [.lit (.int .i32 a), .lit (.int .i32 b)], []) ∧ (Lit.int .i32 a).wf = true ∧ (Lit.int .i32 b).wf = true := by
 obtain ⟨z0, z1, m, hz, _, h0, h1⟩ := trod_struct2 Tryz.underlying38 h
 have g0 : DataW.trod enc Tryz.prog W base spare held m 21 [c0] = some z0 := by simpa [cells_i32] using h0
 have g1 : DataW.trod enc Tryz.prog W base spare held m 21 [c1] = some z1 := by simpa [cells_i32] using h1
 obtain ⟨a, e0, rfl, w0⟩ := DataW.trod_int Tryz.underlying21 g0
 obtain ⟨b, e1, rfl, w1⟩ := DataW.trod_int Tryz.underlying21 g1
 simp at e0 e1
 subst e0 e1
 exact ⟨a, b, rfl, rfl, by simpa using hz, w0, w1⟩
theorem shut_vec (m : Nat) {a b : Int} (w0 : (Lit.int .i32 a).wf = true) (w1 : (Lit.int .i32 b).wf = true) :
 DataW.trod enc Tryz.prog W base spare held (m + 2) 38 [.int .i32 a, .int .i32 b] = some (.agg [.lit (.int .i32 a), .lit (.int .i32 b)], []) := by
 have := trod_struct2_mk (enc := enc) (w := W) (base := base) (spare := spare) (held := held) (n := m + 1) (cs := [.int .i32 a, .int .i32 b]) (y0 := (.lit (.int .i32 a), [])) (y1 := (.lit (.int .i32 b), [])) Tryz.underlying38 (by simp [cells_vec])
  (by simpa [cells_i32] using trod_int_mk m Tryz.underlying21 w0) (by simpa [cells_i32] using trod_int_mk m Tryz.underlying21 w1)
 simpa using this

theorem open_body {r : Reach} {b0 : Nat} {v : Value} {d : DataW H} {p : List MemPlace} (hv : Value.okWide Tryz.prog W r b0 40 v) (h : DataW.Trod enc Tryz.prog W base spare held 40 v d p) :
 ∃ a0 a1 a2 a3 a4 a5 a6 a7 a8 a9 : Int, v = .agg #[.int .u32 a0, .int .i32 a1, .int .i32 a2, .int .i32 a3, .int .i32 a4, .int .i32 a5, .int .i32 a6, .int .i32 a7, .int .i32 a8, .int .i32 a9] ∧ d = .agg [.lit (.int .u32 a0), .lit (.int .i32 a1), .agg [.lit (.int .i32 a2), .lit (.int .i32 a3)], .lit (.int .i32 a4), .lit (.int .i32 a5), .agg [.lit (.int .i32 a6), .lit (.int .i32 a7)], .agg [.lit (.int .i32 a8), .lit (.int .i32 a9)]] ∧ p = [] ∧ (Lit.int .u32 a0).wf = true ∧ (Lit.int .i32 a1).wf = true ∧ (Lit.int .i32 a2).wf = true ∧ (Lit.int .i32 a3).wf = true ∧ (Lit.int .i32 a4).wf = true ∧ (Lit.int .i32 a5).wf = true ∧ (Lit.int .i32 a6).wf = true ∧ (Lit.int .i32 a7).wf = true ∧ (Lit.int .i32 a8).wf = true ∧ (Lit.int .i32 a9).wf = true := by
 obtain ⟨cs, rfl, hsz⟩ := okWide_struct Tryz.underlying40 hv
 rw [cells_body] at hsz
 obtain ⟨l⟩ := cs
 match l, hsz with
 | [c0, c1, c2, c3, c4, c5, c6, c7, c8, c9], _ =>
   obtain ⟨fuel, hf⟩ := h
   obtain ⟨xs, n, _, hx, _, hlen, hg⟩ := DataW.trod_struct Tryz.underlying40 hf
   match xs, hlen with
   | [y0, y1, y2, y3, y4, y5, y6], _ =>
     simp only [Prod.mk.injEq] at hx
     have g0 : DataW.trod enc Tryz.prog W base spare held n 36 [c0] = some y0 := by simpa [Value.cells, cells_u32] using hg 0 _ rfl
     have g1 : DataW.trod enc Tryz.prog W base spare held n 21 [c1] = some y1 := by simpa [Value.cells, cells_i32] using hg 1 _ rfl
     have g2 : DataW.trod enc Tryz.prog W base spare held n 38 [c2, c3] = some y2 := by simpa [Value.cells, cells_vec] using hg 2 _ rfl
     have g3 : DataW.trod enc Tryz.prog W base spare held n 21 [c4] = some y3 := by simpa [Value.cells, cells_i32] using hg 3 _ rfl
     have g4 : DataW.trod enc Tryz.prog W base spare held n 21 [c5] = some y4 := by simpa [Value.cells, cells_i32] using hg 4 _ rfl
     have g5 : DataW.trod enc Tryz.prog W base spare held n 38 [c6, c7] = some y5 := by simpa [Value.cells, cells_vec] using hg 5 _ rfl
     have g6 : DataW.trod enc Tryz.prog W base spare held n 38 [c8, c9] = some y6 := by simpa [Value.cells, cells_vec] using hg 6 _ rfl
     clear hg hf hv
     obtain ⟨a0, e0, rfl, w0⟩ := DataW.trod_int Tryz.underlying36 g0
     obtain ⟨a1, e1, rfl, w1⟩ := DataW.trod_int Tryz.underlying21 g1
     obtain ⟨a2, a3, rfl, rfl, rfl, w2, w3⟩ := open_vec g2
     obtain ⟨a4, e4, rfl, w4⟩ := DataW.trod_int Tryz.underlying21 g3
     obtain ⟨a5, e5, rfl, w5⟩ := DataW.trod_int Tryz.underlying21 g4
     obtain ⟨a6, a7, rfl, rfl, rfl, w6, w7⟩ := open_vec g5
     obtain ⟨a8, a9, rfl, rfl, rfl, w8, w9⟩ := open_vec g6
     simp at e0 e1 e4 e5
     subst e0 e1 e4 e5
     exact ⟨a0, a1, a2, a3, a4, a5, a6, a7, a8, a9, rfl, by simpa using hx.1, by simpa using hx.2, w0, w1, w2, w3, w4, w5, w6, w7, w8, w9⟩

theorem shut_body {a0 a1 a2 a3 a4 a5 a6 a7 a8 a9 : Int} (h : (Lit.int .u32 a0).wf = true ∧ (Lit.int .i32 a1).wf = true ∧ (Lit.int .i32 a2).wf = true ∧ (Lit.int .i32 a3).wf = true ∧ (Lit.int .i32 a4).wf = true ∧ (Lit.int .i32 a5).wf = true ∧ (Lit.int .i32 a6).wf = true ∧ (Lit.int .i32 a7).wf = true ∧ (Lit.int .i32 a8).wf = true ∧ (Lit.int .i32 a9).wf = true) : DataW.Trod enc Tryz.prog W base spare held 40 (.agg #[.int .u32 a0, .int .i32 a1, .int .i32 a2, .int .i32 a3, .int .i32 a4, .int .i32 a5, .int .i32 a6, .int .i32 a7, .int .i32 a8, .int .i32 a9]) (.agg [.lit (.int .u32 a0), .lit (.int .i32 a1), .agg [.lit (.int .i32 a2), .lit (.int .i32 a3)], .lit (.int .i32 a4), .lit (.int .i32 a5), .agg [.lit (.int .i32 a6), .lit (.int .i32 a7)], .agg [.lit (.int .i32 a8), .lit (.int .i32 a9)]]) [] := by
 obtain ⟨w0, w1, w2, w3, w4, w5, w6, w7, w8, w9⟩ := h
 have := trod_struct_mk (enc := enc) (w := W) (base := base) (spare := spare) (held := held) (n := 2) (cs := [.int .u32 a0, .int .i32 a1, .int .i32 a2, .int .i32 a3, .int .i32 a4, .int .i32 a5, .int .i32 a6, .int .i32 a7, .int .i32 a8, .int .i32 a9]) (xs := [(.lit (.int .u32 a0), []), (.lit (.int .i32 a1), []), (.agg [.lit (.int .i32 a2), .lit (.int .i32 a3)], []), (.lit (.int .i32 a4), []), (.lit (.int .i32 a5), []), (.agg [.lit (.int .i32 a6), .lit (.int .i32 a7)], []), (.agg [.lit (.int .i32 a8), .lit (.int .i32 a9)], [])]) Tryz.underlying40 (by simp [cells_body])
  (by simp [cells_u32, cells_i32, cells_vec, trod_int_mk 1 Tryz.underlying36 w0, trod_int_mk 1 Tryz.underlying21 w1, trod_int_mk 1 Tryz.underlying21 w4, trod_int_mk 1 Tryz.underlying21 w5, shut_vec 0 w2 w3, shut_vec 0 w6 w7, shut_vec 0 w8 w9])
 exact ⟨3, by simpa [Value.cells] using this⟩
end
end Go.Proofs.YtaknmlohnifcdaaGreatDoor
end
