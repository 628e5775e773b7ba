/-
  Package store: the library's sort of a slice of bodies by their keys.
-/
import Derived.Test.YtfkieieedljodaaStoreSort0
import Derived.Test.YtfkieieedljodaaStoreIs
import Derived.Shelf.Small.Bits
namespace Go.Proofs.Ytfkieieedljodaa
open Go.RowKit Go.Lib Go.Shelf Go.Sort

instance : Inhabited Bd := ⟨⟨0, 0, 0, 0, 0, 0, 0, 0, 0, 0⟩⟩

theorem cmp_any (x y : Int) (w : World) : Calls Try.prog 29 #[.int .u32 x, .int .u32 y] w fun e w' => e = .returned (.int .i64 (Lib.compareInt x y)) ∧ w = w' := by
  unfold Lib.compareInt
  by_cases h1 : x < y
  · rw [if_pos h1]
    go_enter Try.func29, Try.ntmps29
    go_wp2
    go_ret
    exact ⟨rfl, rfl⟩
  · rw [if_neg h1]
    by_cases h2 : x > y
    · rw [if_pos h2]
      go_enter Try.func29, Try.ntmps29
      go_wp2
      go_ret
      exact ⟨rfl, rfl⟩
    · rw [if_neg h2]
      go_enter Try.func29, Try.ntmps29
      go_wp2
      go_ret
      exact ⟨rfl, rfl⟩
def byKey (x y : Bd) : Int := Lib.compareInt x.k y.k
theorem closure_any (x y : Bd) (W : World) : Calls Try.prog 28 #[.agg (vals x).toArray, .agg (vals y).toArray] W fun e w' => e = .returned (.int .i64 (byKey x y)) ∧ ∃ q os', w' = grow (W.drewN q) os' := by
  have hcon := Lib.hid (fun W' => cmp_any x.k y.k W')
  show Calls Try.prog _ #[.agg #[.int .u32 x.k, .int .i32 x.r, .int .i32 x.ax, .int .i32 x.ay, .int .i32 x.m, .int .i32 x.o, .int .i32 x.px, .int .i32 x.py, .int .i32 x.vx, .int .i32 x.vy], .agg #[.int .u32 y.k, .int .i32 y.r, .int .i32 y.ax, .int .i32 y.ay, .int .i32 y.m, .int .i32 y.o, .int .i32 y.px, .int .i32 y.py, .int .i32 y.vx, .int .i32 y.vy]] W _
  unfold byKey
  generalize Lib.compareInt x.k y.k = r at hcon ⊢
  go_enter Try.func28, Try.ntmps28
  go_wp2_with ((with_reducible refine (hcon.out _).mono ?_); rintro e w' ⟨rfl, rfl⟩)
  go_ret
  exact ⟨rfl, 0, _, by rw [alloc_eq_grow, alloc_eq_grow, grow_grow]; rfl⟩
theorem ltKey (x y : Bd) : ltOf byKey x y = decide (x.k < y.k) := by
  unfold ltOf byKey Lib.compareInt
  by_cases h1 : x.k < y.k
  · simp [h1]
  · by_cases h2 : y.k < x.k <;> simp [h1, h2]
theorem swoKey : SWO (ltOf byKey) where
  irrefl x := by rw [ltKey]; simp
  trans x y z h1 h2 := by rw [ltKey] at *; simp at *; omega
  ntrans x y z h1 h2 := by rw [ltKey] at *; simp at *; omega
theorem insert_none (p : Option Addr) (cap : Nat) (fv : Value) (w : World) : Calls Try.prog 40 #[.slice p 0 cap, .int .i64 0, .int .i64 0, fv] w fun e w' => e = .returned (.tuple #[]) ∧ w = w' := by
  go_enter Try.func40, Try.ntmps40
  go_wp2
  refine wp_loop_rounds 1 ?_
  rw [rounds_succ]
  go_wp2
  go_end0
  exact ⟨rfl, rfl⟩
theorem pdq_none (p : Option Addr) (cap : Nat) (lim : Int) (fv : Value) (w : World) : Calls Try.prog 34 #[.slice p 0 cap, .int .i64 0, .int .i64 0, .int .i64 lim, fv] w fun e w' => e = .returned (.tuple #[]) ∧ w = w' := by
  have hi := Lib.hid (fun W => insert_none p cap fv W)
  go_enter Try.func34, Try.ntmps34
  go_wp2
  refine wp_loop_rounds 1 ?_
  rw [rounds_succ]
  go_wp2_with ((with_reducible refine (hi.out _).mono ?_); rintro e w' ⟨rfl, rfl⟩)
  (try simp only [Exit.inBlock, Exit.then]); refine bodyPost_ret (results_none rfl _ _ _) rfl ?_
  exact ⟨rfl, rfl⟩
theorem sort_none (p : Option Addr) (cap : Nat) (fv : Value) (w : World) : Calls Try.prog 27 #[.slice p 0 cap, fv] w fun e w' => e = .returned (.tuple #[]) ∧ w = w' := by
  have hp := Lib.hid (fun lim W => pdq_none p cap lim fv W)
  have hl : Hid (∀ W, Calls Try.prog 35 #[.int .u64 0] W fun e w' => e = .returned (.int .i64 (Lib.bitLen 0 : Nat)) ∧ w' = W) := Lib.hid fun W => by
    have h := Any.bits_Len (SlLaysF0.n15.bits (P := Try.prog) (ρ := sortB_ren) { sortB with }) 0 W (by omega) (by omega)
    exact h
  go_enter Try.func27, Try.ntmps27
  go_wp2_with (first | ((with_reducible refine (hl.out _).mono ?_); rintro e w' ⟨rfl, rfl⟩) | ((with_reducible refine (hp.out _ _).mono ?_); rintro e w' ⟨rfl, rfl⟩))
  go_end0
  exact ⟨rfl, rfl⟩
end Go.Proofs.Ytfkieieedljodaa
