/-
  Package fx: what each function returns, for all arguments, by contracts on whole numbers.
-/
import Derived.Test.YtohkacgmdboknaaWide
import Derived.Deep.RegionWith
import Derived.OpenShut
namespace Go.Proofs.Ytohkacgmdboknaa
open Go.RowKit Go.Lib

/-- A number of 32 bits with a sign. -/
def I32 (v : Int) : Prop := -2147483648 ≤ v ∧ v < 2147483648
/-- The nearest number of 32 bits. -/
def sat (n : Int) : Int := max (-2147483648) (min n 2147483647)
theorem sat_of {n : Int} (h : I32 n) : sat n = n := by unfold sat; obtain ⟨h1, h2⟩ := h; omega
theorem ik32 (a : Int) (h1 : -2147483648 ≤ a := by decide) (h2 : a < 2147483648 := by decide) : I32 a := ⟨h1, h2⟩
theorem ik64 (a : Int) (h1 : -9223372036854775808 ≤ a := by decide) (h2 : a < 9223372036854775808 := by decide) : I64 a := ⟨h1, h2⟩
theorem I32.i64 {n : Int} (h : I32 n) : I64 n := by obtain ⟨h1, h2⟩ := h; exact ⟨by omega, by omega⟩

theorem saturate_any (n : Int) (h : I64 n) (w : World) :
    Calls Try.prog 47 #[.int .i64 n] w fun e w' => e = .returned (.int .i32 (sat n)) ∧ w = w' := by
  obtain ⟨h1, h2⟩ := h
  go_enter Try.func47, Try.ntmps47
  go_wp2
  go_ret
  exact ⟨rfl, rfl⟩

theorem saturating_any (K : Nat) (w : World) :
    Calls Try.prog 42 #[.func (.func K) #[] #[]] w fun e w' => e = .returned (.func (.func 46) #[] #[.pointer (some ⟨w.heap.size, 0, none⟩)]) ∧ w' = w.alloc (.cells #[.func (.func K) #[] #[]] 35) := by
  have hmf : ∀ (fn : Fn) (first cap : Array Value) (w : World), (Instr.makeFunc fn first cap).run Try.prog w = .ok (.func fn first cap) w := fun _ _ _ _ => rfl
  go_enter Try.func42, Try.ntmps42
  go_wp2
  go_ret
  exact ⟨rfl, rfl⟩

theorem addf_any (a b : Int) (ha : I32 a) (hb : I32 b) (w : World) :
    Calls Try.prog 43 #[.int .i64 a, .int .i64 b] w fun e w' => e = .returned (.int .i64 (a + b)) ∧ w = w' := by
  obtain ⟨h1, h2⟩ := ha; obtain ⟨h3, h4⟩ := hb
  go_enter Try.func43, Try.ntmps43
  go_wp2
  go_ret
  exact ⟨rfl, rfl⟩
theorem subf_any (a b : Int) (ha : I32 a) (hb : I32 b) (w : World) :
    Calls Try.prog 44 #[.int .i64 a, .int .i64 b] w fun e w' => e = .returned (.int .i64 (a - b)) ∧ w = w' := by
  obtain ⟨h1, h2⟩ := ha; obtain ⟨h3, h4⟩ := hb
  go_enter Try.func44, Try.ntmps44
  go_wp2
  go_ret
  exact ⟨rfl, rfl⟩

theorem mul32 {a b : Int} (ha : I32 a) (hb : I32 b) : -4611686018427387904 ≤ a * b ∧ a * b ≤ 4611686018427387904 := by
  obtain ⟨h1, h2⟩ := ha; obtain ⟨h3, h4⟩ := hb
  have k : ∀ x y : Int, 0 ≤ x → x ≤ 2147483648 → 0 ≤ y → y ≤ 2147483648 → 0 ≤ x * y ∧ x * y ≤ 4611686018427387904 := fun x y a b c d =>
    ⟨Int.mul_nonneg a c, Int.mul_le_mul b d c (by omega)⟩
  by_cases c : a < 0 <;> by_cases d : b < 0
  · have := k (-a) (-b) (by omega) (by omega) (by omega) (by omega); rw [Int.neg_mul_neg] at this; omega
  · have := k (-a) b (by omega) (by omega) (by omega) (by omega); rw [Int.neg_mul] at this; omega
  · have := k a (-b) (by omega) (by omega) (by omega) (by omega); rw [Int.mul_neg] at this; omega
  · have := k a b (by omega) (by omega) (by omega) (by omega); omega

theorem mulf_any (a b : Int) (ha : I32 a) (hb : I32 b) (w : World) :
    Calls Try.prog 45 #[.int .i64 a, .int .i64 b] w fun e w' => e = .returned (.int .i64 (a * b / 65536)) ∧ w = w' := by
  have h := mul32 ha hb
  have hw : IntKind.i64.wrap (a * b) = a * b := by rw [IntKind.wrap_i64]; omega
  have hw2 : wrap64 (a * b) = a * b := by unfold wrap64; omega
  obtain ⟨p, hp⟩ : ∃ p, p = a * b := ⟨_, rfl⟩
  rw [← hp] at h hw hw2 ⊢
  have HP := hp.symm; clear hp
  go_enter Try.func45, Try.ntmps45
  go_wp2
  go_ret
  exact ⟨rfl, rfl⟩


set_option maxHeartbeats 400000 in
theorem sat_add (a b : Int) (ad : Addr) (ha : I32 a) (hb : I32 b) (w : World) (hw : w.cell? ad = some (.func (.func 43) #[] #[])) :
    Calls Try.prog 46 #[.int .i32 a, .int .i32 b, .pointer (some ad)] w fun e w' => e = .returned (.int .i32 (sat (a + b))) ∧ w = w' := by
  have hc : I64 (a + b) := by
    obtain ⟨h1, h2⟩ := ha; obtain ⟨h3, h4⟩ := hb; exact ⟨by omega, by omega⟩
  obtain ⟨h1, h2⟩ := ha; obtain ⟨h3, h4⟩ := hb
  go_enter Try.func46, Try.ntmps46
  go_wp2_with (first
    | (go_at_call 43; refine (addf_any a b ⟨h1, h2⟩ ⟨h3, h4⟩ _).mono ?_; rintro e w' ⟨rfl, rfl⟩)
    | (go_at_call 47; refine (saturate_any (a + b) hc _).mono ?_; rintro e w' ⟨rfl, rfl⟩))
  go_ret
  exact ⟨rfl, rfl⟩

set_option maxHeartbeats 400000 in
theorem add_any (a b : Int) (ha : I32 a) (hb : I32 b) (w : World) :
    Calls Try.prog 30 #[.int .i32 a, .int .i32 b] w fun e w' => e = .returned (.int .i32 (sat (a + b))) ∧ Grown w w' := by
  go_enter Try.func30, Try.ntmps30
  go_wp2_with (first
    | (go_at_call 42; refine (saturating_any 43 _).mono ?_; rintro e w' ⟨rfl, rfl⟩)
    | (go_at_call 46; refine (sat_add a b _ ha hb _ (by simp [World.cell?_alloc_new])).mono ?_; rintro e w' ⟨rfl, rfl⟩))
  go_ret
  exact ⟨rfl, (Grown.refl _).alloc _ _⟩

set_option maxHeartbeats 400000 in
theorem sat_sub (a b : Int) (ad : Addr) (ha : I32 a) (hb : I32 b) (w : World) (hw : w.cell? ad = some (.func (.func 44) #[] #[])) :
    Calls Try.prog 46 #[.int .i32 a, .int .i32 b, .pointer (some ad)] w fun e w' => e = .returned (.int .i32 (sat (a - b))) ∧ w = w' := by
  have hc : I64 (a - b) := by
    obtain ⟨h1, h2⟩ := ha; obtain ⟨h3, h4⟩ := hb; exact ⟨by omega, by omega⟩
  obtain ⟨h1, h2⟩ := ha; obtain ⟨h3, h4⟩ := hb
  go_enter Try.func46, Try.ntmps46
  go_wp2_with (first
    | (go_at_call 44; refine (subf_any a b ⟨h1, h2⟩ ⟨h3, h4⟩ _).mono ?_; rintro e w' ⟨rfl, rfl⟩)
    | (go_at_call 47; refine (saturate_any (a - b) hc _).mono ?_; rintro e w' ⟨rfl, rfl⟩))
  go_ret
  exact ⟨rfl, rfl⟩

set_option maxHeartbeats 400000 in
theorem sub_any (a b : Int) (ha : I32 a) (hb : I32 b) (w : World) :
    Calls Try.prog 31 #[.int .i32 a, .int .i32 b] w fun e w' => e = .returned (.int .i32 (sat (a - b))) ∧ Grown w w' := by
  go_enter Try.func31, Try.ntmps31
  go_wp2_with (first
    | (go_at_call 42; refine (saturating_any 44 _).mono ?_; rintro e w' ⟨rfl, rfl⟩)
    | (go_at_call 46; refine (sat_sub a b _ ha hb _ (by simp [World.cell?_alloc_new])).mono ?_; rintro e w' ⟨rfl, rfl⟩))
  go_ret
  exact ⟨rfl, (Grown.refl _).alloc _ _⟩

set_option maxHeartbeats 400000 in
theorem sat_mul (a b : Int) (ad : Addr) (ha : I32 a) (hb : I32 b) (w : World) (hw : w.cell? ad = some (.func (.func 45) #[] #[])) :
    Calls Try.prog 46 #[.int .i32 a, .int .i32 b, .pointer (some ad)] w fun e w' => e = .returned (.int .i32 (sat (a * b / 65536))) ∧ w = w' := by
  have hc : I64 (a * b / 65536) := by
    have h := mul32 ha hb; obtain ⟨p, hp⟩ : ∃ p, p = a * b := ⟨_, rfl⟩; rw [← hp] at h ⊢; exact ⟨by omega, by omega⟩
  obtain ⟨h1, h2⟩ := ha; obtain ⟨h3, h4⟩ := hb
  go_enter Try.func46, Try.ntmps46
  go_wp2_with (first
    | (go_at_call 45; refine (mulf_any a b ⟨h1, h2⟩ ⟨h3, h4⟩ _).mono ?_; rintro e w' ⟨rfl, rfl⟩)
    | (go_at_call 47; refine (saturate_any (a * b / 65536) hc _).mono ?_; rintro e w' ⟨rfl, rfl⟩))
  go_ret
  exact ⟨rfl, rfl⟩

set_option maxHeartbeats 400000 in
theorem mul_any (a b : Int) (ha : I32 a) (hb : I32 b) (w : World) :
    Calls Try.prog 32 #[.int .i32 a, .int .i32 b] w fun e w' => e = .returned (.int .i32 (sat (a * b / 65536))) ∧ Grown w w' := by
  go_enter Try.func32, Try.ntmps32
  go_wp2_with (first
    | (go_at_call 42; refine (saturating_any 45 _).mono ?_; rintro e w' ⟨rfl, rfl⟩)
    | (go_at_call 46; refine (sat_mul a b _ ha hb _ (by simp [World.cell?_alloc_new])).mono ?_; rintro e w' ⟨rfl, rfl⟩))
  go_ret
  exact ⟨rfl, (Grown.refl _).alloc _ _⟩

theorem neg_any (a : Int) (ha : I32 a) (w : World) :
    Calls Try.prog 34 #[.int .i32 a] w fun e w' => e = .returned (.int .i32 (sat (-a))) ∧ Grown w w' := by
  have C := Lib.hid (fun w => show Calls Try.prog 31 #[.int .i32 0, .int .i32 a] w fun e w' => e = .returned (.int .i32 (sat (-a))) ∧ Grown w w' from by
    have := sub_any 0 a (ik32 _) ha w; rwa [Int.zero_sub] at this)
  go_enter Try.func34, Try.ntmps34
  go_wp2_with ((with_reducible refine (C.out _).mono ?_); rintro e w1 ⟨rfl, g⟩)
  go_ret
  exact ⟨rfl, g⟩

end Go.Proofs.Ytohkacgmdboknaa
