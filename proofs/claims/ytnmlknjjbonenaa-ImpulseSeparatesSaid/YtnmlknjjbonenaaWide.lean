/-
  Package wide: magnitude, the negation of two words, and the quotient of magnitudes, by contracts on whole numbers.
-/
import Derived.Test.YtnmlknjjbonenaaDivAll
namespace Go.Proofs.Ytnmlknjjbonenaa
open Go.RowKit Go.Lib

/-- A number of 64 bits with a sign. -/
def I64 (v : Int) : Prop := -9223372036854775808 ≤ v ∧ v < 9223372036854775808
instance (v : Int) : Decidable (I64 v) := inferInstanceAs (Decidable (_ ∧ _))
/-- The value that is returned for v: v where it is in range, 0 otherwise; and its error. -/
def rv (v : Int) : Int := if I64 v then v else 0
def re (v : Int) : Int := if I64 v then 0 else 3
/-- The magnitude, and the quotient of magnitudes with a sign, rounded down. -/
def mag (a : Int) : Int := if a < 0 then -a else a
def qs (P c : Int) (neg : Bool) : Int := if neg then -((P + c - 1) / c) else P / c

theorem mag_any (a : Int) (h : I64 a) (w : World) :
    Calls Try.prog 29 #[.int .i64 a] w fun e w' => e = .returned (.int .u64 (mag a)) ∧ w = w' := by
  obtain ⟨h1, h2⟩ := h
  by_cases c : a < 0
  · have e1 : IntKind.u64.wrap (wrap64 (-a)) = -a := by rw [IntKind.wrap_u64]; unfold wrap64; omega
    have e2 : mag a = -a := by unfold mag; rw [if_pos c]
    rw [e2]
    go_enter Try.func29, Try.ntmps29
    go_wp2
    go_ret
    exact ⟨rfl, rfl⟩
  · have e1 : IntKind.u64.wrap a = a := by simp only [IntKind.wrap_u64]; omega
    have e2 : mag a = a := by unfold mag; rw [if_neg c]
    rw [e2]
    go_enter Try.func29, Try.ntmps29
    go_wp2
    go_ret
    exact ⟨rfl, rfl⟩

/-- The borrow of a word from 0. -/
def bor (x : Int) : Int := if 0 < x then 1 else 0

theorem sub0 (y : Int) (hy : 0 ≤ y) (hy' : y < 18446744073709551616) (w : World) : (callFunc 41 #[.int .u64 0, .int .u64 y, .int .u64 0]).run Try.prog w =
    .ok (.value (.tuple #[.int .u64 ((-y) % 18446744073709551616), .int .u64 (bor y)])) w := by
  have h := sub64 0 y 0 (by omega) hy hy' (by omega) (by omega) w
  simpa [bor] using h

theorem sub0b (y b : Int) (hy : 0 ≤ y) (hy' : y < 18446744073709551616) (hb0 : 0 ≤ b) (hb : b ≤ 1) (w : World) : (callFunc 41 #[.int .u64 0, .int .u64 y, .int .u64 b]).run Try.prog w =
    .ok (.value (.tuple #[.int .u64 ((-y - b) % 18446744073709551616), .int .u64 (bor (y + b))])) w := by
  have h := sub64 0 y b (by omega) hy hy' hb0 hb w
  simpa [bor] using h

theorem neg_no (h l : Int) (a : Addr) (w : World) (hc : w.cell? a = some (.bool false)) :
    Calls Try.prog 40 #[.int .u64 h, .int .u64 l, .pointer (some a)] w fun e w' => e = .returned (.tuple #[.int .u64 h, .int .u64 l]) ∧ w = w' := by
  go_enter Try.func40, Try.ntmps40
  go_wp2
  go_ret2
  exact ⟨rfl, rfl⟩

theorem neg_yes (h l : Int) (a : Addr) (w : World) (hc : w.cell? a = some (.bool true)) (h0 : 0 ≤ h) (h1 : h < 18446744073709551616) (l0 : 0 ≤ l) (l1 : l < 18446744073709551616) :
    Calls Try.prog 40 #[.int .u64 h, .int .u64 l, .pointer (some a)] w fun e w' => e = .returned (.tuple #[.int .u64 ((-h - bor l) % 18446744073709551616), .int .u64 ((-l) % 18446744073709551616)]) ∧ w = w' := by
  have b0 : 0 ≤ bor l := by unfold bor; split <;> decide
  have b1 : bor l ≤ 1 := by unfold bor; split <;> decide
  go_enter Try.func40, Try.ntmps40
  go_wp2_with (first | simp only [sub0 l l0 l1] | simp only [sub0b h (bor l) h0 h1 b0 b1])
  go_ret2
  exact ⟨rfl, rfl⟩

theorem negs_any (n : Bool) (w : World) :
    Calls Try.prog 36 #[.bool n] w fun e w' => e = .returned (.func (.func 40) #[] #[.pointer (some ⟨w.heap.size, 0, none⟩)]) ∧ w' = w.alloc (.cells #[.bool n] 4) := by
  have hmf : ∀ (fn : Fn) (first cap : Array Value) (w : World), (Instr.makeFunc fn first cap).run Try.prog w = .ok (.func fn first cap) w := fun _ _ _ _ => rfl
  go_enter Try.func36, Try.ntmps36
  go_wp2
  go_ret
  exact ⟨rfl, rfl⟩

theorem mul64i (x y H L : Int) (hx0 : 0 ≤ x) (hx : x < 18446744073709551616) (hy0 : 0 ≤ y) (hy : y < 18446744073709551616) (h : Hid (H = x * y / 18446744073709551616 ∧ L = x * y % 18446744073709551616)) (w : World) :
    Calls Try.prog 33 #[.int .u64 x, .int .u64 y] w fun e w' => e = .returned (.tuple #[.int .u64 H, .int .u64 L]) ∧ w = w' := by
  obtain ⟨rfl, rfl⟩ := h.out
  obtain ⟨x, rfl⟩ := Int.eq_ofNat_of_zero_le hx0
  obtain ⟨y, rfl⟩ := Int.eq_ofNat_of_zero_le hy0
  exact mul64 x y (by omega) (by omega) w

theorem div64i (hi lo y q : Int) (h0 : 0 ≤ hi) (l0 : 0 ≤ lo) (l1 : lo < 18446744073709551616) (y1 : y < 18446744073709551616) (hlt : hi < y) (h : Hid (q = (hi * 18446744073709551616 + lo) / y)) (w : World) :
    Calls Try.prog 35 #[.int .u64 hi, .int .u64 lo, .int .u64 y] w fun e w' => (∃ r : Int, e = .returned (.tuple #[.int .u64 q, .int .u64 r])) ∧ Grown w w' := by
  obtain rfl := h.out
  obtain ⟨hi, rfl⟩ := Int.eq_ofNat_of_zero_le h0
  obtain ⟨lo, rfl⟩ := Int.eq_ofNat_of_zero_le l0
  obtain ⟨y, rfl⟩ := Int.eq_ofNat_of_zero_le (show 0 ≤ y by omega)
  refine (div64 hi lo y (by omega) (by omega) (by omega) w).mono ?_
  rintro e w' ⟨rfl, g⟩
  exact ⟨⟨_, rfl⟩, g⟩

/-- The closure, called with 0 as its upper word. -/
theorem neg0 (n : Bool) (l X Y : Int) (a : Addr) (w : World) (hc : w.cell? a = some (.bool n)) (l0 : 0 ≤ l) (l1 : l < 18446744073709551616)
    (h : Hid (X = (if n then (-bor l) % 18446744073709551616 else 0) ∧ Y = (if n then (-l) % 18446744073709551616 else l))) :
    Calls Try.prog 40 #[.int .u64 0, .int .u64 l, .pointer (some a)] w fun e w' => e = .returned (.tuple #[.int .u64 X, .int .u64 Y]) ∧ w = w' := by
  obtain ⟨rfl, rfl⟩ := h.out
  cases n
  · exact neg_no 0 l a w hc
  · have := neg_yes 0 l a w hc (by omega) (by omega) l0 l1
    simpa using this

/-- quotient, not negated, where the product's upper word is at least c. -/
theorem quot_no_big (a b c H L : Int) (ha0 : 0 ≤ a) (ha : a < 18446744073709551616) (hb0 : 0 ≤ b) (hb : b < 18446744073709551616) (h : Hid (H = a * b / 18446744073709551616 ∧ L = a * b % 18446744073709551616)) (hc : c ≤ H) (w : World) :
    Calls Try.prog 28 #[.int .u64 a, .int .u64 b, .int .u64 c, .bool false] w fun e w' => e = .returned (.tuple #[.int .i64 0, .int .i64 3]) ∧ Grown w w' := by
  go_enter Try.func28, Try.ntmps28
  go_wp2_with (go_at_call 33; refine (mul64i a b H L ha0 ha hb0 hb h _).mono ?_; rintro e w' ⟨rfl, rfl⟩)
  go_ret2
  exact ⟨rfl, Grown.refl _⟩

theorem rv_in {v : Int} (h : I64 v) : rv v = v := if_pos h
theorem re_in {v : Int} (h : I64 v) : re v = 0 := if_pos h
theorem rv_out {v : Int} (h : ¬ I64 v) : rv v = 0 := if_neg h
theorem re_out {v : Int} (h : ¬ I64 v) : re v = 3 := if_neg h

set_option maxHeartbeats 1000000 in
theorem quot_no (a b c H L q : Int) (ha0 : 0 ≤ a) (ha : a < 18446744073709551616) (hb0 : 0 ≤ b) (hb : b < 18446744073709551616) (h : Hid (H = a * b / 18446744073709551616 ∧ L = a * b % 18446744073709551616)) (hc : H < c) (hc1 : c < 18446744073709551616)
    (hH : 0 ≤ H) (hL : 0 ≤ L) (hL1 : L < 18446744073709551616) (hq : Hid (q = (H * 18446744073709551616 + L) / c)) (hq0 : 0 ≤ q) (hq1 : q < 18446744073709551616) (w : World) :
    Calls Try.prog 28 #[.int .u64 a, .int .u64 b, .int .u64 c, .bool false] w fun e w' => e = .returned (.tuple #[.int .i64 (rv q), .int .i64 (re q)]) ∧ Grown w w' := by
  by_cases hs : q < 9223372036854775808
  · rw [rv_in ⟨by omega, hs⟩, re_in ⟨by omega, hs⟩]
    have e1 : (0 != q / 9223372036854775808) = false := by simp; omega
    have e2 : wrap64 q = q := by unfold wrap64; omega
    go_enter Try.func28, Try.ntmps28
    go_wp2_with (first
      | (go_at_call 33; refine (mul64i a b H L ha0 ha hb0 hb h _).mono ?_; rintro e w' ⟨rfl, rfl⟩)
      | (go_at_call 35; refine (div64i H L c q hH hL hL1 hc1 hc hq _).mono ?_; rintro e w1 ⟨⟨r, rfl⟩, hg⟩)
      | (go_at_call 36; refine (negs_any _ _).mono ?_; rintro e w2 ⟨rfl, rfl⟩)
      | (go_at_call 40; refine (neg0 false q 0 q _ _ (by simp [World.cell?_alloc_new]) hq0 hq1 (Lib.hid ⟨rfl, rfl⟩)).mono ?_; rintro e w' ⟨rfl, rfl⟩))
    go_ret2
    exact ⟨rfl, hg.alloc _ _⟩
  · have hn : ¬ I64 q := fun h => hs h.2
    rw [rv_out hn, re_out hn]
    obtain ⟨x, hx⟩ : ∃ x, x = wrap64 q := ⟨_, rfl⟩
    have e1 : x / 9223372036854775808 = -1 := by unfold wrap64 at hx; omega
    have e2 : wrap64 q = x := hx.symm
    clear hx hn
    go_enter Try.func28, Try.ntmps28
    go_wp2_with (first
      | (go_at_call 33; refine (mul64i a b H L ha0 ha hb0 hb h _).mono ?_; rintro e w' ⟨rfl, rfl⟩)
      | (go_at_call 35; refine (div64i H L c q hH hL hL1 hc1 hc hq _).mono ?_; rintro e w1 ⟨⟨r, rfl⟩, hg⟩)
      | (go_at_call 36; refine (negs_any _ _).mono ?_; rintro e w2 ⟨rfl, rfl⟩)
      | (go_at_call 40; refine (neg0 false q 0 q _ _ (by simp [World.cell?_alloc_new]) hq0 hq1 (Lib.hid ⟨rfl, rfl⟩)).mono ?_; rintro e w' ⟨rfl, rfl⟩))
    go_ret2
    exact ⟨rfl, hg.alloc _ _⟩

theorem add0 (x y S C : Int) (hx : 0 ≤ x) (hy : 0 ≤ y) (h : Hid (S = (x + y) % 18446744073709551616 ∧ C = (x + y) / 18446744073709551616)) (w : World) : (callFunc 34 #[.int .u64 x, .int .u64 y, .int .u64 0]).run Try.prog w =
    .ok (.value (.tuple #[.int .u64 S, .int .u64 C])) w := by
  obtain ⟨rfl, rfl⟩ := h.out
  simpa using add64 x y 0 hx hy (Int.le_refl 0) (by decide) w

theorem quot_yes_big (a b c H L d S C T : Int) (ha0 : 0 ≤ a) (ha : a < 18446744073709551616) (hb0 : 0 ≤ b) (hb : b < 18446744073709551616) (h : Hid (H = a * b / 18446744073709551616 ∧ L = a * b % 18446744073709551616))
    (hd : IntKind.u64.wrap (c - 1) = d) (hd0 : 0 ≤ d) (hL : 0 ≤ L) (hS : Hid (S = (L + d) % 18446744073709551616 ∧ C = (L + d) / 18446744073709551616)) (hT : IntKind.u64.wrap (H + C) = T) (hc : c ≤ T) (w : World) :
    Calls Try.prog 28 #[.int .u64 a, .int .u64 b, .int .u64 c, .bool true] w fun e w' => e = .returned (.tuple #[.int .i64 0, .int .i64 3]) ∧ Grown w w' := by
  go_enter Try.func28, Try.ntmps28
  go_wp2_with (first
    | (go_at_call 33; refine (mul64i a b H L ha0 ha hb0 hb h _).mono ?_; rintro e w' ⟨rfl, rfl⟩)
    | simp only [add0 L d S C hL hd0 hS])
  go_ret2
  exact ⟨rfl, Grown.refl _⟩

set_option maxHeartbeats 1000000 in
theorem quot_yes (a b c H L d S C T q X Y x y z r1 r2 : Int) (ha0 : 0 ≤ a) (ha : a < 18446744073709551616) (hb0 : 0 ≤ b) (hb : b < 18446744073709551616) (h : Hid (H = a * b / 18446744073709551616 ∧ L = a * b % 18446744073709551616))
    (hd : IntKind.u64.wrap (c - 1) = d) (hd0 : 0 ≤ d) (hL : 0 ≤ L) (hS : Hid (S = (L + d) % 18446744073709551616 ∧ C = (L + d) / 18446744073709551616)) (hT : IntKind.u64.wrap (H + C) = T) (hc : T < c) (hc1 : c < 18446744073709551616)
    (hT0 : 0 ≤ T) (hS0 : 0 ≤ S) (hS1 : S < 18446744073709551616) (hq : Hid (q = (T * 18446744073709551616 + S) / c)) (hq0 : 0 ≤ q) (hq1 : q < 18446744073709551616)
    (hXY : Hid (X = (-bor q) % 18446744073709551616 ∧ Y = (-q) % 18446744073709551616)) (hx : wrap64 X = x) (hy : wrap64 Y = y) (hz : y / 9223372036854775808 = z)
    (hr : ((x != z) = false ∧ r1 = y ∧ r2 = 0) ∨ ((x != z) = true ∧ r1 = 0 ∧ r2 = 3)) (w : World) :
    Calls Try.prog 28 #[.int .u64 a, .int .u64 b, .int .u64 c, .bool true] w fun e w' => e = .returned (.tuple #[.int .i64 r1, .int .i64 r2]) ∧ Grown w w' := by
  rcases hr with ⟨hxz, rfl, rfl⟩ | ⟨hxz, rfl, rfl⟩
  all_goals
    go_enter Try.func28, Try.ntmps28
    go_wp2_with (first
      | (go_at_call 33; refine (mul64i a b H L ha0 ha hb0 hb h _).mono ?_; rintro e w' ⟨rfl, rfl⟩)
      | simp only [add0 L d S C hL hd0 hS]
      | (go_at_call 35; refine (div64i T S c q hT0 hS0 hS1 hc1 hc hq _).mono ?_; rintro e w1 ⟨⟨r, rfl⟩, hg⟩)
      | (go_at_call 36; refine (negs_any _ _).mono ?_; rintro e w2 ⟨rfl, rfl⟩)
      | (go_at_call 40; refine (neg0 true q X Y _ _ (by simp [World.cell?_alloc_new]) hq0 hq1 (Lib.hid (by simpa using hXY.out))).mono ?_; rintro e w' ⟨rfl, rfl⟩))
    go_ret2
    exact ⟨by first | rfl | exact congrArg (fun v => Ending.returned (.tuple #[.int .i64 v, .int .i64 0])) hy, hg.alloc _ _⟩

/-- wide.quotient: for magnitudes of at most 2^63 and a divisor that is not 0. -/
theorem quot_any (a b c : Int) (n : Bool) (ha0 : 0 ≤ a) (ha : a ≤ 9223372036854775808) (hb0 : 0 ≤ b) (hb : b ≤ 9223372036854775808) (hc0 : 0 < c) (hc : c ≤ 9223372036854775808) (w : World) :
    Calls Try.prog 28 #[.int .u64 a, .int .u64 b, .int .u64 c, .bool n] w fun e w' => e = .returned (.tuple #[.int .i64 (rv (qs (a * b) c n)), .int .i64 (re (qs (a * b) c n))]) ∧ Grown w w' := by
  obtain ⟨P, hP⟩ : ∃ P, P = a * b := ⟨_, rfl⟩
  have hP0 : 0 ≤ P := by rw [hP]; exact Int.mul_nonneg ha0 hb0
  have hP1 : P ≤ 9223372036854775808 * 9223372036854775808 := by rw [hP]; exact Int.mul_le_mul ha hb hb0 (by omega)
  obtain ⟨H, hH⟩ : ∃ H, H = P / 18446744073709551616 := ⟨_, rfl⟩
  obtain ⟨L, hL⟩ : ∃ L, L = P % 18446744073709551616 := ⟨_, rfl⟩
  have hHL : Hid (H = a * b / 18446744073709551616 ∧ L = a * b % 18446744073709551616) := Lib.hid (by rw [← hP]; exact ⟨hH, hL⟩)
  rw [← hP]
  cases n
  · have eq : qs P c false = P / c := rfl
    rw [eq]
    by_cases hb : c ≤ H
    · have hn : ¬ I64 (P / c) := by
        intro h
        have := (Int.ediv_lt_iff_lt_mul hc0).1 h.2
        omega
      rw [rv_out hn, re_out hn]
      exact quot_no_big a b c H L ha0 (by omega) hb0 (by omega) hHL hb w
    · have h1 : P / c < 18446744073709551616 := (Int.ediv_lt_iff_lt_mul hc0).2 (by omega)
      have h0 : 0 ≤ P / c := Int.ediv_nonneg hP0 (by omega)
      exact quot_no a b c H L (P / c) ha0 (by omega) hb0 (by omega) hHL (by omega) (by omega) (by omega) (by omega) (by omega) (Lib.hid (by congr 1; omega)) h0 h1 w
  · have eq : qs P c true = -((P + c - 1) / c) := rfl
    rw [eq]
    obtain ⟨S, hS⟩ : ∃ S, S = (L + (c - 1)) % 18446744073709551616 := ⟨_, rfl⟩
    obtain ⟨C, hC⟩ : ∃ C, C = (L + (c - 1)) / 18446744073709551616 := ⟨_, rfl⟩
    obtain ⟨T, hT⟩ : ∃ T, T = H + C := ⟨_, rfl⟩
    have hTS : T * 18446744073709551616 + S = P + c - 1 := by omega
    have wd : IntKind.u64.wrap (c - 1) = c - 1 := by rw [IntKind.wrap_u64]; omega
    have wT : IntKind.u64.wrap (H + C) = T := by rw [IntKind.wrap_u64]; omega
    by_cases hb : c ≤ T
    · have hn : ¬ I64 (-((P + c - 1) / c)) := by
        intro h
        have h2 : (P + c - 1) / c < 9223372036854775809 := by have := h.1; omega
        have := (Int.ediv_lt_iff_lt_mul hc0).1 h2
        omega
      rw [rv_out hn, re_out hn]
      exact quot_yes_big a b c H L (c - 1) S C T ha0 (by omega) hb0 (by omega) hHL wd (by omega) (by omega) (Lib.hid ⟨hS, hC⟩) wT hb w
    · have h1 : (P + c - 1) / c < 18446744073709551616 := (Int.ediv_lt_iff_lt_mul hc0).2 (by omega)
      have h0 : 0 ≤ (P + c - 1) / c := Int.ediv_nonneg (by omega) (by omega)
      obtain ⟨q, hq⟩ : ∃ q, q = (P + c - 1) / c := ⟨_, rfl⟩
      rw [← hq] at h0 h1 ⊢
      refine quot_yes a b c H L (c - 1) S C T q ((-bor q) % 18446744073709551616) ((-q) % 18446744073709551616) _ _ _ _ _ ha0 (by omega) hb0 (by omega) hHL wd (by omega) (by omega) (Lib.hid ⟨hS, hC⟩) wT (by omega) (by omega)
        (by omega) (by omega) (by omega) (Lib.hid (by rw [hTS]; exact hq)) h0 h1 (Lib.hid ⟨rfl, rfl⟩) rfl rfl rfl ?_ w
      by_cases hr : q ≤ 9223372036854775808
      · left
        rw [rv_in ⟨by omega, by omega⟩, re_in ⟨by omega, by omega⟩]
        refine ⟨?_, ?_, rfl⟩
        · unfold bor wrap64; split <;> (simp; omega)
        · unfold wrap64; omega
      · right
        have hn : ¬ I64 (-q) := fun h => hr (by have := h.1; omega)
        rw [rv_out hn, re_out hn]
        refine ⟨?_, rfl, rfl⟩
        unfold bor wrap64; split <;> (simp; omega)
end Go.Proofs.Ytnmlknjjbonenaa
