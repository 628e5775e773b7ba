/-
  Package fx: what each function returns, for all arguments, by contracts on whole numbers.
-/
import Derived.Test.YtcachdbdcfjknaaMulDiv
import Derived.OpenShut
namespace Go.Proofs.Ytcachdbdcfjknaa
open Go.RowKit Go.Lib

/-- A number of 32 bits with a sign. -/
def I32 (v : Int) : Prop := -2147483648 ≤ v ∧ v < 2147483648
/-- The nearest number of 32 bits. -/
def sat (n : Int) : Int := max (-2147483648) (min n 2147483647)
/-- The nearest number from -l to l. -/
def lim (n l : Int) : Int := max (-l) (min n l)

theorem sat_in (n : Int) : I32 (sat n) := by unfold sat I32; omega
theorem sat_of {n : Int} (h : I32 n) : sat n = n := by unfold sat; obtain ⟨h1, h2⟩ := h; omega
theorem ik32 (a : Int) (h1 : -2147483648 ≤ a := by decide) (h2 : a < 2147483648 := by decide) : I32 a := ⟨h1, h2⟩
theorem ik64 (a : Int) (h1 : -9223372036854775808 ≤ a := by decide) (h2 : a < 9223372036854775808 := by decide) : I64 a := ⟨h1, h2⟩
theorem I32.i64 {n : Int} (h : I32 n) : I64 n := by obtain ⟨h1, h2⟩ := h; exact ⟨by omega, by omega⟩

theorem saturate_any (n : Int) (h : I64 n) (w : World) :
    Calls Try.prog 13 #[.int .i64 n] w fun e w' => e = .returned (.int .i32 (sat n)) ∧ w = w' := by
  obtain ⟨h1, h2⟩ := h
  go_enter Try.func13, Try.ntmps13
  go_wp2
  go_ret
  exact ⟨rfl, rfl⟩

theorem limit_any (n l : Int) (h : I64 n) (h0 : 0 ≤ l) (h3 : l < 9223372036854775808) (w : World) :
    Calls Try.prog 17 #[.int .i64 n, .int .i64 l] w fun e w' => e = .returned (.tuple #[.int .i64 (lim n l), .bool (lim n l != n)]) ∧ w = w' := by
  obtain ⟨h1, h2⟩ := h
  go_enter Try.func17, Try.ntmps17
  go_wp2
  go_ret2
  exact ⟨rfl, rfl⟩

theorem saturating_any (K : Nat) (w : World) :
    Calls Try.prog 27 #[.func (.func K) #[] #[]] w fun e w' => e = .returned (.func (.func 33) #[] #[.pointer (some ⟨w.heap.size, 0, none⟩)]) ∧ w' = w.alloc (.cells #[.func (.func K) #[] #[]] 32) := by
  have hmf : ∀ (fn : Fn) (first cap : Array Value) (w : World), (Instr.makeFunc fn first cap).run Try.prog w = .ok (.func fn first cap) w := fun _ _ _ _ => rfl
  go_enter Try.func27, Try.ntmps27
  go_wp2
  go_ret
  exact ⟨rfl, rfl⟩

theorem addf_any (a b : Int) (ha : I32 a) (hb : I32 b) (w : World) :
    Calls Try.prog 29 #[.int .i64 a, .int .i64 b] w fun e w' => e = .returned (.int .i64 (a + b)) ∧ w = w' := by
  obtain ⟨h1, h2⟩ := ha; obtain ⟨h3, h4⟩ := hb
  go_enter Try.func29, Try.ntmps29
  go_wp2
  go_ret
  exact ⟨rfl, rfl⟩
theorem subf_any (a b : Int) (ha : I32 a) (hb : I32 b) (w : World) :
    Calls Try.prog 30 #[.int .i64 a, .int .i64 b] w fun e w' => e = .returned (.int .i64 (a - b)) ∧ w = w' := by
  obtain ⟨h1, h2⟩ := ha; obtain ⟨h3, h4⟩ := hb
  go_enter Try.func30, Try.ntmps30
  go_wp2
  go_ret
  exact ⟨rfl, rfl⟩

theorem mul32 {a b : Int} (ha : I32 a) (hb : I32 b) : -4611686018427387904 ≤ a * b ∧ a * b ≤ 4611686018427387904 := by
  obtain ⟨h1, h2⟩ := ha; obtain ⟨h3, h4⟩ := hb
  have k : ∀ x y : Int, 0 ≤ x → x ≤ 2147483648 → 0 ≤ y → y ≤ 2147483648 → 0 ≤ x * y ∧ x * y ≤ 4611686018427387904 := fun x y a b c d =>
    ⟨Int.mul_nonneg a c, Int.mul_le_mul b d c (by omega)⟩
  by_cases c : a < 0 <;> by_cases d : b < 0
  · have := k (-a) (-b) (by omega) (by omega) (by omega) (by omega); rw [Int.neg_mul_neg] at this; omega
  · have := k (-a) b (by omega) (by omega) (by omega) (by omega); rw [Int.neg_mul] at this; omega
  · have := k a (-b) (by omega) (by omega) (by omega) (by omega); rw [Int.mul_neg] at this; omega
  · have := k a b (by omega) (by omega) (by omega) (by omega); omega

theorem mulf_any (a b : Int) (ha : I32 a) (hb : I32 b) (w : World) :
    Calls Try.prog 28 #[.int .i64 a, .int .i64 b] w fun e w' => e = .returned (.int .i64 (a * b / 65536)) ∧ w = w' := by
  have h := mul32 ha hb
  have hw : IntKind.i64.wrap (a * b) = a * b := by rw [IntKind.wrap_i64]; omega
  have hw2 : wrap64 (a * b) = a * b := by unfold wrap64; omega
  obtain ⟨p, hp⟩ : ∃ p, p = a * b := ⟨_, rfl⟩
  rw [← hp] at h hw hw2 ⊢
  have HP := hp.symm; clear hp
  go_enter Try.func28, Try.ntmps28
  go_wp2
  go_ret
  exact ⟨rfl, rfl⟩


set_option maxHeartbeats 400000 in
theorem sat_add (a b : Int) (ad : Addr) (ha : I32 a) (hb : I32 b) (w : World) (hw : w.cell? ad = some (.func (.func 29) #[] #[])) :
    Calls Try.prog 33 #[.int .i32 a, .int .i32 b, .pointer (some ad)] w fun e w' => e = .returned (.int .i32 (sat (a + b))) ∧ w = w' := by
  have hc : I64 (a + b) := by
    obtain ⟨h1, h2⟩ := ha; obtain ⟨h3, h4⟩ := hb; exact ⟨by omega, by omega⟩
  obtain ⟨h1, h2⟩ := ha; obtain ⟨h3, h4⟩ := hb
  go_enter Try.func33, Try.ntmps33
  go_wp2_with (first
    | (go_at_call 29; refine (addf_any a b ⟨h1, h2⟩ ⟨h3, h4⟩ _).mono ?_; rintro e w' ⟨rfl, rfl⟩)
    | (go_at_call 13; refine (saturate_any (a + b) hc _).mono ?_; rintro e w' ⟨rfl, rfl⟩))
  go_ret
  exact ⟨rfl, rfl⟩

set_option maxHeartbeats 400000 in
theorem add_any (a b : Int) (ha : I32 a) (hb : I32 b) (w : World) :
    Calls Try.prog 20 #[.int .i32 a, .int .i32 b] w fun e w' => e = .returned (.int .i32 (sat (a + b))) ∧ Grown w w' := by
  go_enter Try.func20, Try.ntmps20
  go_wp2_with (first
    | (go_at_call 27; refine (saturating_any 29 _).mono ?_; rintro e w' ⟨rfl, rfl⟩)
    | (go_at_call 33; refine (sat_add a b _ ha hb _ (by simp [World.cell?_alloc_new])).mono ?_; rintro e w' ⟨rfl, rfl⟩))
  go_ret
  exact ⟨rfl, (Grown.refl _).alloc _ _⟩

set_option maxHeartbeats 400000 in
theorem sat_sub (a b : Int) (ad : Addr) (ha : I32 a) (hb : I32 b) (w : World) (hw : w.cell? ad = some (.func (.func 30) #[] #[])) :
    Calls Try.prog 33 #[.int .i32 a, .int .i32 b, .pointer (some ad)] w fun e w' => e = .returned (.int .i32 (sat (a - b))) ∧ w = w' := by
  have hc : I64 (a - b) := by
    obtain ⟨h1, h2⟩ := ha; obtain ⟨h3, h4⟩ := hb; exact ⟨by omega, by omega⟩
  obtain ⟨h1, h2⟩ := ha; obtain ⟨h3, h4⟩ := hb
  go_enter Try.func33, Try.ntmps33
  go_wp2_with (first
    | (go_at_call 30; refine (subf_any a b ⟨h1, h2⟩ ⟨h3, h4⟩ _).mono ?_; rintro e w' ⟨rfl, rfl⟩)
    | (go_at_call 13; refine (saturate_any (a - b) hc _).mono ?_; rintro e w' ⟨rfl, rfl⟩))
  go_ret
  exact ⟨rfl, rfl⟩

set_option maxHeartbeats 400000 in
theorem sub_any (a b : Int) (ha : I32 a) (hb : I32 b) (w : World) :
    Calls Try.prog 21 #[.int .i32 a, .int .i32 b] w fun e w' => e = .returned (.int .i32 (sat (a - b))) ∧ Grown w w' := by
  go_enter Try.func21, Try.ntmps21
  go_wp2_with (first
    | (go_at_call 27; refine (saturating_any 30 _).mono ?_; rintro e w' ⟨rfl, rfl⟩)
    | (go_at_call 33; refine (sat_sub a b _ ha hb _ (by simp [World.cell?_alloc_new])).mono ?_; rintro e w' ⟨rfl, rfl⟩))
  go_ret
  exact ⟨rfl, (Grown.refl _).alloc _ _⟩

set_option maxHeartbeats 400000 in
theorem sat_mul (a b : Int) (ad : Addr) (ha : I32 a) (hb : I32 b) (w : World) (hw : w.cell? ad = some (.func (.func 28) #[] #[])) :
    Calls Try.prog 33 #[.int .i32 a, .int .i32 b, .pointer (some ad)] w fun e w' => e = .returned (.int .i32 (sat (a * b / 65536))) ∧ w = w' := by
  have hc : I64 (a * b / 65536) := by
    have h := mul32 ha hb; obtain ⟨p, hp⟩ : ∃ p, p = a * b := ⟨_, rfl⟩; rw [← hp] at h ⊢; exact ⟨by omega, by omega⟩
  obtain ⟨h1, h2⟩ := ha; obtain ⟨h3, h4⟩ := hb
  go_enter Try.func33, Try.ntmps33
  go_wp2_with (first
    | (go_at_call 28; refine (mulf_any a b ⟨h1, h2⟩ ⟨h3, h4⟩ _).mono ?_; rintro e w' ⟨rfl, rfl⟩)
    | (go_at_call 13; refine (saturate_any (a * b / 65536) hc _).mono ?_; rintro e w' ⟨rfl, rfl⟩))
  go_ret
  exact ⟨rfl, rfl⟩

set_option maxHeartbeats 400000 in
theorem mul_any (a b : Int) (ha : I32 a) (hb : I32 b) (w : World) :
    Calls Try.prog 11 #[.int .i32 a, .int .i32 b] w fun e w' => e = .returned (.int .i32 (sat (a * b / 65536))) ∧ Grown w w' := by
  go_enter Try.func11, Try.ntmps11
  go_wp2_with (first
    | (go_at_call 27; refine (saturating_any 28 _).mono ?_; rintro e w' ⟨rfl, rfl⟩)
    | (go_at_call 33; refine (sat_mul a b _ ha hb _ (by simp [World.cell?_alloc_new])).mono ?_; rintro e w' ⟨rfl, rfl⟩))
  go_ret
  exact ⟨rfl, (Grown.refl _).alloc _ _⟩

theorem neg_any (a : Int) (ha : I32 a) (w : World) :
    Calls Try.prog 22 #[.int .i32 a] w fun e w' => e = .returned (.int .i32 (sat (-a))) ∧ Grown w w' := by
  have C := Lib.hid (fun w => show Calls Try.prog 21 #[.int .i32 0, .int .i32 a] w fun e w' => e = .returned (.int .i32 (sat (-a))) ∧ Grown w w' from by
    have := sub_any 0 a (ik32 _) ha w; rwa [Int.zero_sub] at this)
  go_enter Try.func22, Try.ntmps22
  go_wp2_with ((with_reducible refine (C.out _).mono ?_); rintro e w1 ⟨rfl, g⟩)
  go_ret
  exact ⟨rfl, g⟩

theorem abs_any (a : Int) (ha : I32 a) (w : World) :
    Calls Try.prog 23 #[.int .i32 a] w fun e w' => e = .returned (.int .i32 (max a (sat (-a)))) ∧ Grown w w' := by
  go_enter Try.func23, Try.ntmps23
  go_wp2_with ((with_reducible refine (neg_any a ha _).mono ?_); rintro e w1 ⟨rfl, g⟩)
  go_ret
  exact ⟨rfl, g⟩

theorem rv_in64 (v : Int) : I64 (rv v) := by
  unfold rv; split
  · assumption
  · exact ⟨by decide, by decide⟩

/-- What Div returns: mdv's value, saturated. -/
theorem div_raw (a b : Int) (ha : I32 a) (hb : I32 b) (w : World) :
    Calls Try.prog 9 #[.int .i32 a, .int .i32 b] w fun e w' => e = .returned (.tuple #[.int .i32 (sat (mdv a 65536 b)), .int .i64 (mde a 65536 b)]) ∧ Grown w w' := by
  have hm : I64 (mdv a 65536 b) := by
    unfold mdv; split
    · exact ⟨by decide, by decide⟩
    · exact rv_in64 _
  obtain ⟨h1, h2⟩ := ha; obtain ⟨h3, h4⟩ := hb
  go_enter Try.func9, Try.ntmps9
  go_wp2_with (first
    | ((with_reducible refine (muldiv_any a 65536 b (I32.i64 (ik32 a h1 h2)) (ik64 _) (I32.i64 (ik32 b h3 h4)) _).mono ?_); rintro e w1 ⟨rfl, g⟩)
    | ((with_reducible refine (saturate_any (mdv a 65536 b) hm _).mono ?_); rintro e w' ⟨rfl, rfl⟩))
  go_ret2
  exact ⟨rfl, g⟩

theorem fromint_any (n : Int) (h : I64 n) (w : World) :
    Calls Try.prog 15 #[.int .i64 n] w fun e w' => e = .returned (.int .i32 (sat (n * 65536))) ∧ w = w' := by
  have hs := sat_in n
  have e : sat (n * 65536) = sat (sat n * 65536) := by unfold sat; omega
  rw [e]
  obtain ⟨s, hS⟩ : ∃ s, s = sat n := ⟨_, rfl⟩
  have HS := Lib.hid hS
  rw [← hS] at hs ⊢
  clear hS e
  have h1 := hs.1; have h2 := hs.2
  have e1 : IntKind.i64.wrap (s * 65536) = s * 65536 := by rw [IntKind.wrap_i64]; omega
  go_enter Try.func15, Try.ntmps15
  go_wp2_with (first
    | ((with_reducible refine (saturate_any n h _).mono ?_); rintro e w' ⟨rfl, rfl⟩; rw [← HS.out])
    | ((with_reducible refine (saturate_any (s * 65536) (ik64 _ (by omega) (by omega)) _).mono ?_); rintro e w' ⟨rfl, rfl⟩))
  go_ret
  exact ⟨rfl, rfl⟩

theorem floor_any (a : Int) (ha : I32 a) (w : World) :
    Calls Try.prog 24 #[.int .i32 a] w fun e w' => e = .returned (.int .i32 (a / 65536)) ∧ w = w' := by
  obtain ⟨h1, h2⟩ := ha
  go_enter Try.func24, Try.ntmps24
  go_wp2
  go_ret
  exact ⟨rfl, rfl⟩

theorem frac_any (a : Int) (ha : I32 a) (w : World) :
    Calls Try.prog 25 #[.int .i32 a] w fun e w' => e = .returned (.int .i32 (a - a / 65536 * 65536)) ∧ w = w' := by
  obtain ⟨h1, h2⟩ := ha
  obtain ⟨q, hq⟩ : ∃ q, q = a / 65536 := ⟨_, rfl⟩
  have q1 : -32768 ≤ q := by omega
  have q2 : q ≤ 32767 := by omega
  have q3 : 0 ≤ a - q * 65536 := by omega
  have q4 : a - q * 65536 ≤ 65535 := by omega
  have e1 : IntKind.i32.wrap (q * 65536) = q * 65536 := by rw [IntKind.wrap_i32]; omega
  have e2 : IntKind.i32.wrap (a - q * 65536) = a - q * 65536 := by rw [IntKind.wrap_i32]; omega
  have HQ := Lib.hid hq
  rw [← hq]
  clear hq
  go_enter Try.func25, Try.ntmps25
  go_wp2_with ((with_reducible refine (floor_any a (ik32 a h1 h2) _).mono ?_); rintro e w' ⟨rfl, rfl⟩; rw [← HQ.out])
  go_ret
  exact ⟨rfl, rfl⟩
end Go.Proofs.Ytcachdbdcfjknaa
