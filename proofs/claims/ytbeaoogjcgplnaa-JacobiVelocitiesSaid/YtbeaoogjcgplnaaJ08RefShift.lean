import Derived.Test.YtbeaoogjcgplnaaJ06RefMul
import Derived.Test.YtbeaoogjcgplnaaJ04GridMath
import Derived.Test.YtbeaoogjcgplnaaJ01FxRef
import Derived.Deep.DeepCutAuto
import Derived.Deep.QuietTactic
import Derived.BigQuiet

/-! J08RefShift: RefShift, ImpRef. -/

section
/-
  The reference implementation of package wide: MulShift returns what the program's function returns; and the walk of the law WideMatchesReference.
-/
namespace Go.Proofs.Ytbeaoogjcgplnaa
open Go.RowKit Go.Lib

set_option maxRecDepth 100000 in
set_option maxHeartbeats 4000000 in
theorem refms_walk (a b n D z0 z1 z2 z3 z4 z5 z6 z7 q r X xv xe : Int) (sm s ok sa sb : Bool) (h1 : decide (a < 0) = sa) (h2 : decide (b < 0) = sb) (hn0 : ¬ n < 0) (hn1 : ¬ 63 < n) (hD : Hid (D = 2 ^ n.toNat))
    (hn : s = (sa != sb)) (pr : Hid (Prods a b z0 z1 z2 z3 z4 z5 z6 z7))
    (dv : Hid (∀ w, Calls Try.prog 51 #[.agg #[.int .u64 z0, .int .u64 z1, .int .u64 z2, .int .u64 z3, .int .u64 z4, .int .u64 z5, .int .u64 z6, .int .u64 z7], .int .u64 D] w fun e w' => e = .returned (.tuple #[.int .u64 q, .int .u64 r, .bool sm]) ∧ Grown w w'))
    (fr : Hid (∀ w, Calls Try.prog 53 #[.int .u64 q, .int .u64 r, .bool sm, .bool s] w fun e w' => e = .returned (.tuple #[.int .i64 X, .bool ok]) ∧ Grown w w'))
    (hx : (ok = true ∧ xv = X ∧ xe = 0) ∨ (ok = false ∧ xv = 0 ∧ xe = 3)) (w : World) :
    Calls Try.prog 43 #[.int .i64 a, .int .i64 b, .int .i64 n] w fun e w' => e = .returned (.tuple #[.int .i64 xv, .int .i64 xe]) ∧ Grown w w' := by
  go_enter Try.func43, Try.ntmps43
  go_wp2_with fail
  go_loopg [8, 9] n.toNat (fun k s8 s9 wr => ∃ (m : Nat) (di ii : Int), s8 = .int .u64 di ∧ s9 = .int .i64 ii ∧ 0 ≤ ii ∧ ii ≤ n ∧ wr = w ∧ Hid (ii = m ∧ di = 2 ^ m ∧ m + k = n.toNat))
  case atStart => exact ⟨0, _, _, rfl, rfl, by omega, by omega, rfl, Lib.hid ⟨rfl, rfl, by omega⟩⟩
  case round =>
    obtain ⟨m, di, ii, rfl, rfl, hi0, hi1, rfl, H⟩ := hrel
    by_cases hc : ii < n
    · have hp := two_pow (m + 1) (by have := H.out; omega)
      obtain ⟨x1, x2, x3⟩ := H.out
      rw [Int.pow_succ, ← x2] at hp
      obtain ⟨d', ed⟩ : ∃ d', d' = 2 * di := ⟨_, rfl⟩
      obtain ⟨i', ei⟩ : ∃ i', i' = ii + 1 := ⟨_, rfl⟩
      have k1 : IntKind.u64.wrap (2 * di) = d' := by rw [IntKind.wrap_u64]; omega
      have k2 : IntKind.i64.wrap (ii + 1) = i' := by rw [IntKind.wrap_i64]; omega
      have k3 : wrap64 (ii + 1) = i' := by unfold wrap64; omega
      obtain ⟨k', ek⟩ : ∃ k', gk = k' + 1 := ⟨gk - 1, by omega⟩
      have HE : Hid (i' = ((m + 1 : Nat) : Int) ∧ d' = 2 ^ (m + 1) ∧ m + 1 + k' = n.toNat ∧ 0 ≤ i' ∧ i' ≤ n ∧ k' < gk) := Lib.hid ⟨by omega, by rw [Int.pow_succ, ← x2]; omega, by omega, by omega, by omega, by omega⟩
      clear x1 x2 x3 ed ei ek hp
      go_wp2_with fail
      go_roundg k'
      case measure => exact HE.out.2.2.2.2.2
      case rel => exact ⟨m + 1, _, _, rfl, rfl, HE.out.2.2.2.1, HE.out.2.2.2.2.1, rfl, Lib.hid ⟨HE.out.1, HE.out.2.1, HE.out.2.2.1⟩⟩
    · have e : di = D := by
        obtain ⟨x1, x2, x3⟩ := H.out
        have e2 : n.toNat = m := by omega
        rw [x2, hD.out, e2]
      subst e
      rcases hx with ⟨rfl, rfl, rfl⟩ | ⟨rfl, rfl, rfl⟩ <;> cases sa <;> cases sb <;> subst hn
      all_goals
        go_wp2_with (first
          | ((with_reducible refine (pr.out _).mono ?_); rintro e w1 ⟨rfl, g1⟩)
          | ((with_reducible refine (dv.out _).mono ?_); rintro e w2 ⟨rfl, g2⟩)
          | (go_at_call 53; refine (fr.out _).mono ?_; rintro e w3 ⟨rfl, g3⟩))
        go_ret2
        exact ⟨rfl, grown_trans g1 (grown_trans g2 g3)⟩

theorem refms_any (a b n : Int) (ha : I64 a) (hb : I64 b) (w : World) :
    Calls Try.prog 43 #[.int .i64 a, .int .i64 b, .int .i64 n] w fun e w' => e = .returned (.tuple #[.int .i64 (msv a b n), .int .i64 (mse a b n)]) ∧ Grown w w' := by
  by_cases h : n < 0 ∨ 63 < n
  · have e1 : msv a b n = 0 := if_pos h
    have e2 : mse a b n = 1 := if_pos h
    rw [e1, e2]
    by_cases h1 : n < 0
    · clear h
      go_enter Try.func43, Try.ntmps43
      go_wp2
      go_ret2
      exact ⟨rfl, Grown.refl _⟩
    · have h2 : 63 < n := by omega
      clear h
      go_enter Try.func43, Try.ntmps43
      go_wp2
      go_ret2
      exact ⟨rfl, Grown.refl _⟩
  have e1 : msv a b n = rv (a * b / 2 ^ n.toNat) := if_neg h
  have e2 : mse a b n = re (a * b / 2 ^ n.toNat) := if_neg h
  obtain ⟨D, hD⟩ : ∃ D : Int, D = 2 ^ n.toNat := ⟨_, rfl⟩
  have c1 := two_pow n.toNat (by omega)
  rw [← hD] at c1 e1 e2
  rw [e1, e2, ← qs_shift a b D c1.1]
  obtain ⟨z0, z1, z2, z3, z4, z5, z6, z7, h8, pr⟩ := product_any a b ha hb
  have hV : 0 ≤ mag a * mag b := Int.mul_nonneg ha.mag0.1 hb.mag0.1
  obtain ⟨V, eV⟩ : ∃ V, V = mag a * mag b := ⟨_, rfl⟩
  rw [← eV] at h8 hV ⊢
  obtain ⟨s, hs⟩ : ∃ s, s = (decide (a < 0) != decide (b < 0)) := ⟨_, rfl⟩
  rw [← hs, ← flv_qs V D s c1.1]
  have hQ : 0 ≤ V / D := Int.ediv_nonneg hV (by omega)
  obtain ⟨X, ok, hX, rfl, hfx⟩ := floor_any (V / D) (V % D) s hQ
  refine refms_walk a b n D z0 z1 z2 z3 z4 z5 z6 z7 _ _ X _ _ _ s _ _ _ rfl rfl (fun x => h (.inl x)) (fun x => h (.inr x)) (Lib.hid hD) hs (Lib.hid pr) (Lib.hid fun w => divide_any V z0 z1 z2 z3 z4 z5 z6 z7 D (Lib.hid h8) hV c1.1 (by omega) w) (Lib.hid hfx) ?_ w
  by_cases hi : I64 (flv (V / D) (V % D) s)
  · left; exact ⟨decide_eq_true hi, by rw [rv_in hi, hX hi], re_in hi⟩
  · right; exact ⟨decide_eq_false hi, rv_out hi, re_out hi⟩

end Go.Proofs.Ytbeaoogjcgplnaa
end

section
/-
  Package impulse: its slow reference.
-/
namespace Go.Proofs.Ytbeaoogjcgplnaa
open Go.RowKit Go.Lib

abbrev JAp (lo hi nx ny dp : Int) (x y : Bd) (t : Int) : Prop := ∀ w, Calls Try.prog 41 #[.agg #[.int .u32 lo, .int .u32 hi, .int .i32 nx, .int .i32 ny, .int .i32 dp], .agg #[.int .u32 x.k, .int .i32 x.r, .int .i32 x.ax, .int .i32 x.ay, .int .i32 x.m, .int .i32 x.o, .int .i32 x.px, .int .i32 x.py, .int .i32 x.vx, .int .i32 x.vy], .agg #[.int .u32 y.k, .int .i32 y.r, .int .i32 y.ax, .int .i32 y.ay, .int .i32 y.m, .int .i32 y.o, .int .i32 y.px, .int .i32 y.py, .int .i32 y.vx, .int .i32 y.vy]] w fun e w' => e = .returned (.int .i64 t) ∧ Kep w.heap.size w w'
abbrev JSt (lo hi nx ny dp : Int) (x y : Bd) (t : Int) : Prop := ∀ w, Calls Try.prog 33 #[.agg #[.int .u32 lo, .int .u32 hi, .int .i32 nx, .int .i32 ny, .int .i32 dp], .agg #[.int .u32 x.k, .int .i32 x.r, .int .i32 x.ax, .int .i32 x.ay, .int .i32 x.m, .int .i32 x.o, .int .i32 x.px, .int .i32 x.py, .int .i32 x.vx, .int .i32 x.vy], .agg #[.int .u32 y.k, .int .i32 y.r, .int .i32 y.ax, .int .i32 y.ay, .int .i32 y.m, .int .i32 y.o, .int .i32 y.px, .int .i32 y.py, .int .i32 y.vx, .int .i32 y.vy]] w fun e w' => e = .returned (.int .i64 t) ∧ Kep w.heap.size w w'
abbrev JCh (j i n t : Int) : Prop := ∀ w, Calls Try.prog 34 #[.int .i64 j, .int .i32 i, .int .i32 n] w fun e w' => e = .returned (.int .i64 t) ∧ Kep w.heap.size w w'
abbrev JFl (a b t : Int) : Prop := ∀ w, Calls Try.prog 42 #[.int .i64 a, .int .i64 b] w fun e w' => e = .returned (.int .i64 t) ∧ w = w'
set_option maxRecDepth 100000 in
set_option maxHeartbeats 2000000 in
theorem jap {lo hi nx ny dp : Int} {x y : Bd} {t : Int} (hx : Vb x) (hy : Vb y) (h1 : Nr nx) (h2 : Nr ny) (ht : apI nx ny x y = t) : JAp lo hi nx ny dp x y t := fun w => by
  have hb := sp_bd hx hy h1 h2
  obtain ⟨a1, a2, a3, a4, a5, a6, a7, a8⟩ := hx
  obtain ⟨b1, b2, b3, b4, b5, b6, b7, b8⟩ := hy
  unfold apI spI at ht
  obtain ⟨dx, hdx⟩ : ∃ z, z = y.vx - x.vx := ⟨_, rfl⟩
  obtain ⟨dy, hdy⟩ : ∃ z, z = y.vy - x.vy := ⟨_, rfl⟩
  obtain ⟨p, hp⟩ : ∃ z, z = dx * nx := ⟨_, rfl⟩
  obtain ⟨q, hq⟩ : ∃ z, z = dy * ny := ⟨_, rfl⟩
  rw [← hdx, ← hdy, ← hp, ← hq] at ht hb
  obtain ⟨s, hs⟩ : ∃ z, z = p + q := ⟨_, rfl⟩
  rw [← hs] at ht
  have C1 : Hid (JFl s 65536 t) := Lib.hid (fun w => by rw [← ht]; exact reffl_any s 65536 (by unfold I64; omega) (by decide) (by decide) w)
  have w1 : IntKind.i64.wrap x.vx = x.vx := by rw [IntKind.wrap_i64]; omega
  have w2 : IntKind.i64.wrap y.vx = y.vx := by rw [IntKind.wrap_i64]; omega
  have w3 : IntKind.i64.wrap x.vy = x.vy := by rw [IntKind.wrap_i64]; omega
  have w4 : IntKind.i64.wrap y.vy = y.vy := by rw [IntKind.wrap_i64]; omega
  have w5 : IntKind.i64.wrap nx = nx := by rw [IntKind.wrap_i64]; omega
  have w6 : IntKind.i64.wrap ny = ny := by rw [IntKind.wrap_i64]; omega
  have w7 : IntKind.i64.wrap (y.vx - x.vx) = dx := by rw [IntKind.wrap_i64]; omega
  have w8 : IntKind.i64.wrap (y.vy - x.vy) = dy := by rw [IntKind.wrap_i64]; omega
  have w9 : IntKind.i64.wrap (dx * nx) = p := by rw [← hp, IntKind.wrap_i64]; omega
  have w10 : IntKind.i64.wrap (dy * ny) = q := by rw [← hq, IntKind.wrap_i64]; omega
  have w11 : IntKind.i64.wrap (p + q) = s := by rw [← hs, IntKind.wrap_i64]; omega
  clear a1 a2 a3 a4 a5 a6 a7 a8 b1 b2 b3 b4 b5 b6 b7 b8 hb h1 h2 ht hdx hdy hp hq hs
  go_enter Try.func41, Try.ntmps41
  go_wp2_with ((with_reducible refine (C1.out _).mono ?_); rintro e w' ⟨rfl, rfl⟩)
  go_ret
  exact ⟨rfl, (kep_more (kep_more (kep_more (Kep.refl _ _) _) _) _)⟩
set_option maxRecDepth 100000 in
set_option maxHeartbeats 2000000 in
theorem jst {lo hi nx ny dp : Int} {x y : Bd} {t : Int} (hx : Vb x) (hy : Vb y) (h1 : Nr nx) (h2 : Nr ny) (ht : stI nx ny x y = t) : JSt lo hi nx ny dp x y t := fun w => by
  have hb := ap_bd hx hy h1 h2
  have C1 := Lib.hid (jap (lo := lo) (hi := hi) (dp := dp) hx hy h1 h2 rfl)
  have hnum := num_bd hx hy h1 h2
  have hbn := bn_bd hx hy
  obtain ⟨a1, a2, a3, a4, a5, a6, a7, a8⟩ := hx
  obtain ⟨b1, b2, b3, b4, b5, b6, b7, b8⟩ := hy
  unfold stI at ht
  unfold bnI at *
  generalize apI nx ny x y = v at *
  obtain ⟨M, hM⟩ : ∃ z, z = x.m + y.m := ⟨_, rfl⟩
  obtain ⟨B, hB⟩ : ∃ z, z = max x.o y.o := ⟨_, rfl⟩
  rw [← hM] at ht
  rw [← hB] at ht hnum hbn
  have w1 : IntKind.i64.wrap x.m = x.m := by rw [IntKind.wrap_i64]; omega
  have w2 : IntKind.i64.wrap y.m = y.m := by rw [IntKind.wrap_i64]; omega
  have w3 : IntKind.i64.wrap (x.m + y.m) = M := by rw [IntKind.wrap_i64]; omega
  have w4 : IntKind.i64.wrap B = B := by rw [IntKind.wrap_i64]; omega
  have w5 : max x.o y.o = B := hB.symm
  by_cases c1 : 0 ≤ v
  · rw [if_pos (.inl c1)] at ht
    subst ht
    have d1 : decide (0 ≤ v) = true := decide_eq_true c1
    clear a1 a2 a3 a4 a5 a6 a7 a8 b1 b2 b3 b4 b5 b6 b7 b8 hb h1 h2 hM hB hnum hbn c1
    go_enter Try.func33, Try.ntmps33
    go_wp2_with (first
      | ((with_reducible refine (C1.out _).mono ?_); rintro e w1 ⟨rfl, g1⟩
         have c0 := Kep.all g1 (a := ⟨w.heap.size, 0, none⟩) (v := .int .u32 lo) (by (repeat (first | rw [World.cell?_drew] | rw [World.cell?_alloc_past _ _ _ (by first | (simp; done) | (simp; omega))])); rw [World.cell?_alloc_at _ _ _ _ (by simp)]; rfl)
         have c1 := Kep.all g1 (a := ⟨w.heap.size, 1, none⟩) (v := .int .u32 hi) (by (repeat (first | rw [World.cell?_drew] | rw [World.cell?_alloc_past _ _ _ (by first | (simp; done) | (simp; omega))])); rw [World.cell?_alloc_at _ _ _ _ (by simp)]; rfl)
         have c2 := Kep.all g1 (a := ⟨w.heap.size, 2, none⟩) (v := .int .i32 nx) (by (repeat (first | rw [World.cell?_drew] | rw [World.cell?_alloc_past _ _ _ (by first | (simp; done) | (simp; omega))])); rw [World.cell?_alloc_at _ _ _ _ (by simp)]; rfl)
         have c3 := Kep.all g1 (a := ⟨w.heap.size, 3, none⟩) (v := .int .i32 ny) (by (repeat (first | rw [World.cell?_drew] | rw [World.cell?_alloc_past _ _ _ (by first | (simp; done) | (simp; omega))])); rw [World.cell?_alloc_at _ _ _ _ (by simp)]; rfl)
         have c4 := Kep.all g1 (a := ⟨w.heap.size, 4, none⟩) (v := .int .i32 dp) (by (repeat (first | rw [World.cell?_drew] | rw [World.cell?_alloc_past _ _ _ (by first | (simp; done) | (simp; omega))])); rw [World.cell?_alloc_at _ _ _ _ (by simp)]; rfl)
         have x0 := Kep.all g1 (a := ⟨w.heap.size + 1, 0, none⟩) (v := .int .u32 x.k) (by (repeat (first | rw [World.cell?_drew] | rw [World.cell?_alloc_past _ _ _ (by first | (simp; done) | (simp; omega))])); rw [World.cell?_alloc_at _ _ _ _ (by simp)]; rfl)
         have x1 := Kep.all g1 (a := ⟨w.heap.size + 1, 1, none⟩) (v := .int .i32 x.r) (by (repeat (first | rw [World.cell?_drew] | rw [World.cell?_alloc_past _ _ _ (by first | (simp; done) | (simp; omega))])); rw [World.cell?_alloc_at _ _ _ _ (by simp)]; rfl)
         have x2 := Kep.all g1 (a := ⟨w.heap.size + 1, 2, none⟩) (v := .int .i32 x.ax) (by (repeat (first | rw [World.cell?_drew] | rw [World.cell?_alloc_past _ _ _ (by first | (simp; done) | (simp; omega))])); rw [World.cell?_alloc_at _ _ _ _ (by simp)]; rfl)
         have x3 := Kep.all g1 (a := ⟨w.heap.size + 1, 3, none⟩) (v := .int .i32 x.ay) (by (repeat (first | rw [World.cell?_drew] | rw [World.cell?_alloc_past _ _ _ (by first | (simp; done) | (simp; omega))])); rw [World.cell?_alloc_at _ _ _ _ (by simp)]; rfl)
         have x4 := Kep.all g1 (a := ⟨w.heap.size + 1, 4, none⟩) (v := .int .i32 x.m) (by (repeat (first | rw [World.cell?_drew] | rw [World.cell?_alloc_past _ _ _ (by first | (simp; done) | (simp; omega))])); rw [World.cell?_alloc_at _ _ _ _ (by simp)]; rfl)
         have x5 := Kep.all g1 (a := ⟨w.heap.size + 1, 5, none⟩) (v := .int .i32 x.o) (by (repeat (first | rw [World.cell?_drew] | rw [World.cell?_alloc_past _ _ _ (by first | (simp; done) | (simp; omega))])); rw [World.cell?_alloc_at _ _ _ _ (by simp)]; rfl)
         have x6 := Kep.all g1 (a := ⟨w.heap.size + 1, 6, none⟩) (v := .int .i32 x.px) (by (repeat (first | rw [World.cell?_drew] | rw [World.cell?_alloc_past _ _ _ (by first | (simp; done) | (simp; omega))])); rw [World.cell?_alloc_at _ _ _ _ (by simp)]; rfl)
         have x7 := Kep.all g1 (a := ⟨w.heap.size + 1, 7, none⟩) (v := .int .i32 x.py) (by (repeat (first | rw [World.cell?_drew] | rw [World.cell?_alloc_past _ _ _ (by first | (simp; done) | (simp; omega))])); rw [World.cell?_alloc_at _ _ _ _ (by simp)]; rfl)
         have x8 := Kep.all g1 (a := ⟨w.heap.size + 1, 8, none⟩) (v := .int .i32 x.vx) (by (repeat (first | rw [World.cell?_drew] | rw [World.cell?_alloc_past _ _ _ (by first | (simp; done) | (simp; omega))])); rw [World.cell?_alloc_at _ _ _ _ (by simp)]; rfl)
         have x9 := Kep.all g1 (a := ⟨w.heap.size + 1, 9, none⟩) (v := .int .i32 x.vy) (by (repeat (first | rw [World.cell?_drew] | rw [World.cell?_alloc_past _ _ _ (by first | (simp; done) | (simp; omega))])); rw [World.cell?_alloc_at _ _ _ _ (by simp)]; rfl)
         have y0 := Kep.all g1 (a := ⟨w.heap.size + 1 + 1, 0, none⟩) (v := .int .u32 y.k) (by (repeat (first | rw [World.cell?_drew] | rw [World.cell?_alloc_past _ _ _ (by first | (simp; done) | (simp; omega))])); rw [World.cell?_alloc_at _ _ _ _ (by simp)]; rfl)
         have y1 := Kep.all g1 (a := ⟨w.heap.size + 1 + 1, 1, none⟩) (v := .int .i32 y.r) (by (repeat (first | rw [World.cell?_drew] | rw [World.cell?_alloc_past _ _ _ (by first | (simp; done) | (simp; omega))])); rw [World.cell?_alloc_at _ _ _ _ (by simp)]; rfl)
         have y2 := Kep.all g1 (a := ⟨w.heap.size + 1 + 1, 2, none⟩) (v := .int .i32 y.ax) (by (repeat (first | rw [World.cell?_drew] | rw [World.cell?_alloc_past _ _ _ (by first | (simp; done) | (simp; omega))])); rw [World.cell?_alloc_at _ _ _ _ (by simp)]; rfl)
         have y3 := Kep.all g1 (a := ⟨w.heap.size + 1 + 1, 3, none⟩) (v := .int .i32 y.ay) (by (repeat (first | rw [World.cell?_drew] | rw [World.cell?_alloc_past _ _ _ (by first | (simp; done) | (simp; omega))])); rw [World.cell?_alloc_at _ _ _ _ (by simp)]; rfl)
         have y4 := Kep.all g1 (a := ⟨w.heap.size + 1 + 1, 4, none⟩) (v := .int .i32 y.m) (by (repeat (first | rw [World.cell?_drew] | rw [World.cell?_alloc_past _ _ _ (by first | (simp; done) | (simp; omega))])); rw [World.cell?_alloc_at _ _ _ _ (by simp)]; rfl)
         have y5 := Kep.all g1 (a := ⟨w.heap.size + 1 + 1, 5, none⟩) (v := .int .i32 y.o) (by (repeat (first | rw [World.cell?_drew] | rw [World.cell?_alloc_past _ _ _ (by first | (simp; done) | (simp; omega))])); rw [World.cell?_alloc_at _ _ _ _ (by simp)]; rfl)
         have y6 := Kep.all g1 (a := ⟨w.heap.size + 1 + 1, 6, none⟩) (v := .int .i32 y.px) (by (repeat (first | rw [World.cell?_drew] | rw [World.cell?_alloc_past _ _ _ (by first | (simp; done) | (simp; omega))])); rw [World.cell?_alloc_at _ _ _ _ (by simp)]; rfl)
         have y7 := Kep.all g1 (a := ⟨w.heap.size + 1 + 1, 7, none⟩) (v := .int .i32 y.py) (by (repeat (first | rw [World.cell?_drew] | rw [World.cell?_alloc_past _ _ _ (by first | (simp; done) | (simp; omega))])); rw [World.cell?_alloc_at _ _ _ _ (by simp)]; rfl)
         have y8 := Kep.all g1 (a := ⟨w.heap.size + 1 + 1, 8, none⟩) (v := .int .i32 y.vx) (by (repeat (first | rw [World.cell?_drew] | rw [World.cell?_alloc_past _ _ _ (by first | (simp; done) | (simp; omega))])); rw [World.cell?_alloc_at _ _ _ _ (by simp)]; rfl)
         have y9 := Kep.all g1 (a := ⟨w.heap.size + 1 + 1, 9, none⟩) (v := .int .i32 y.vy) (by (repeat (first | rw [World.cell?_drew] | rw [World.cell?_alloc_past _ _ _ (by first | (simp; done) | (simp; omega))])); rw [World.cell?_alloc_at _ _ _ _ (by simp)]; rfl)
         have gg := kep_next (kep_more (kep_more (kep_more (Kep.refl _ _) _) _) _) g1
         have zc_w1 : w.heap.size < w1.heap.size := World.block_lt_of_cell? _ _ c0
         have zx_w1 : w.heap.size + 1 < w1.heap.size := World.block_lt_of_cell? _ _ x0
         have zy_w1 : w.heap.size + 1 + 1 < w1.heap.size := World.block_lt_of_cell? _ _ y0))
    go_ret
    exact ⟨rfl, gg⟩
  have d1 : decide (0 ≤ v) = false := decide_eq_false c1
  by_cases c2 : M = 0
  · rw [if_pos (.inr c2)] at ht
    subst ht
    have d2 : (M == 0) = true := by simp [c2]
    clear a1 a2 a3 a4 a5 a6 a7 a8 b1 b2 b3 b4 b5 b6 b7 b8 hb h1 h2 hM hB hnum hbn c1 c2
    go_enter Try.func33, Try.ntmps33
    go_wp2_with (first
      | ((with_reducible refine (C1.out _).mono ?_); rintro e w1 ⟨rfl, g1⟩
         have c0 := Kep.all g1 (a := ⟨w.heap.size, 0, none⟩) (v := .int .u32 lo) (by (repeat (first | rw [World.cell?_drew] | rw [World.cell?_alloc_past _ _ _ (by first | (simp; done) | (simp; omega))])); rw [World.cell?_alloc_at _ _ _ _ (by simp)]; rfl)
         have c1 := Kep.all g1 (a := ⟨w.heap.size, 1, none⟩) (v := .int .u32 hi) (by (repeat (first | rw [World.cell?_drew] | rw [World.cell?_alloc_past _ _ _ (by first | (simp; done) | (simp; omega))])); rw [World.cell?_alloc_at _ _ _ _ (by simp)]; rfl)
         have c2 := Kep.all g1 (a := ⟨w.heap.size, 2, none⟩) (v := .int .i32 nx) (by (repeat (first | rw [World.cell?_drew] | rw [World.cell?_alloc_past _ _ _ (by first | (simp; done) | (simp; omega))])); rw [World.cell?_alloc_at _ _ _ _ (by simp)]; rfl)
         have c3 := Kep.all g1 (a := ⟨w.heap.size, 3, none⟩) (v := .int .i32 ny) (by (repeat (first | rw [World.cell?_drew] | rw [World.cell?_alloc_past _ _ _ (by first | (simp; done) | (simp; omega))])); rw [World.cell?_alloc_at _ _ _ _ (by simp)]; rfl)
         have c4 := Kep.all g1 (a := ⟨w.heap.size, 4, none⟩) (v := .int .i32 dp) (by (repeat (first | rw [World.cell?_drew] | rw [World.cell?_alloc_past _ _ _ (by first | (simp; done) | (simp; omega))])); rw [World.cell?_alloc_at _ _ _ _ (by simp)]; rfl)
         have x0 := Kep.all g1 (a := ⟨w.heap.size + 1, 0, none⟩) (v := .int .u32 x.k) (by (repeat (first | rw [World.cell?_drew] | rw [World.cell?_alloc_past _ _ _ (by first | (simp; done) | (simp; omega))])); rw [World.cell?_alloc_at _ _ _ _ (by simp)]; rfl)
         have x1 := Kep.all g1 (a := ⟨w.heap.size + 1, 1, none⟩) (v := .int .i32 x.r) (by (repeat (first | rw [World.cell?_drew] | rw [World.cell?_alloc_past _ _ _ (by first | (simp; done) | (simp; omega))])); rw [World.cell?_alloc_at _ _ _ _ (by simp)]; rfl)
         have x2 := Kep.all g1 (a := ⟨w.heap.size + 1, 2, none⟩) (v := .int .i32 x.ax) (by (repeat (first | rw [World.cell?_drew] | rw [World.cell?_alloc_past _ _ _ (by first | (simp; done) | (simp; omega))])); rw [World.cell?_alloc_at _ _ _ _ (by simp)]; rfl)
         have x3 := Kep.all g1 (a := ⟨w.heap.size + 1, 3, none⟩) (v := .int .i32 x.ay) (by (repeat (first | rw [World.cell?_drew] | rw [World.cell?_alloc_past _ _ _ (by first | (simp; done) | (simp; omega))])); rw [World.cell?_alloc_at _ _ _ _ (by simp)]; rfl)
         have x4 := Kep.all g1 (a := ⟨w.heap.size + 1, 4, none⟩) (v := .int .i32 x.m) (by (repeat (first | rw [World.cell?_drew] | rw [World.cell?_alloc_past _ _ _ (by first | (simp; done) | (simp; omega))])); rw [World.cell?_alloc_at _ _ _ _ (by simp)]; rfl)
         have x5 := Kep.all g1 (a := ⟨w.heap.size + 1, 5, none⟩) (v := .int .i32 x.o) (by (repeat (first | rw [World.cell?_drew] | rw [World.cell?_alloc_past _ _ _ (by first | (simp; done) | (simp; omega))])); rw [World.cell?_alloc_at _ _ _ _ (by simp)]; rfl)
         have x6 := Kep.all g1 (a := ⟨w.heap.size + 1, 6, none⟩) (v := .int .i32 x.px) (by (repeat (first | rw [World.cell?_drew] | rw [World.cell?_alloc_past _ _ _ (by first | (simp; done) | (simp; omega))])); rw [World.cell?_alloc_at _ _ _ _ (by simp)]; rfl)
         have x7 := Kep.all g1 (a := ⟨w.heap.size + 1, 7, none⟩) (v := .int .i32 x.py) (by (repeat (first | rw [World.cell?_drew] | rw [World.cell?_alloc_past _ _ _ (by first | (simp; done) | (simp; omega))])); rw [World.cell?_alloc_at _ _ _ _ (by simp)]; rfl)
         have x8 := Kep.all g1 (a := ⟨w.heap.size + 1, 8, none⟩) (v := .int .i32 x.vx) (by (repeat (first | rw [World.cell?_drew] | rw [World.cell?_alloc_past _ _ _ (by first | (simp; done) | (simp; omega))])); rw [World.cell?_alloc_at _ _ _ _ (by simp)]; rfl)
         have x9 := Kep.all g1 (a := ⟨w.heap.size + 1, 9, none⟩) (v := .int .i32 x.vy) (by (repeat (first | rw [World.cell?_drew] | rw [World.cell?_alloc_past _ _ _ (by first | (simp; done) | (simp; omega))])); rw [World.cell?_alloc_at _ _ _ _ (by simp)]; rfl)
         have y0 := Kep.all g1 (a := ⟨w.heap.size + 1 + 1, 0, none⟩) (v := .int .u32 y.k) (by (repeat (first | rw [World.cell?_drew] | rw [World.cell?_alloc_past _ _ _ (by first | (simp; done) | (simp; omega))])); rw [World.cell?_alloc_at _ _ _ _ (by simp)]; rfl)
         have y1 := Kep.all g1 (a := ⟨w.heap.size + 1 + 1, 1, none⟩) (v := .int .i32 y.r) (by (repeat (first | rw [World.cell?_drew] | rw [World.cell?_alloc_past _ _ _ (by first | (simp; done) | (simp; omega))])); rw [World.cell?_alloc_at _ _ _ _ (by simp)]; rfl)
         have y2 := Kep.all g1 (a := ⟨w.heap.size + 1 + 1, 2, none⟩) (v := .int .i32 y.ax) (by (repeat (first | rw [World.cell?_drew] | rw [World.cell?_alloc_past _ _ _ (by first | (simp; done) | (simp; omega))])); rw [World.cell?_alloc_at _ _ _ _ (by simp)]; rfl)
         have y3 := Kep.all g1 (a := ⟨w.heap.size + 1 + 1, 3, none⟩) (v := .int .i32 y.ay) (by (repeat (first | rw [World.cell?_drew] | rw [World.cell?_alloc_past _ _ _ (by first | (simp; done) | (simp; omega))])); rw [World.cell?_alloc_at _ _ _ _ (by simp)]; rfl)
         have y4 := Kep.all g1 (a := ⟨w.heap.size + 1 + 1, 4, none⟩) (v := .int .i32 y.m) (by (repeat (first | rw [World.cell?_drew] | rw [World.cell?_alloc_past _ _ _ (by first | (simp; done) | (simp; omega))])); rw [World.cell?_alloc_at _ _ _ _ (by simp)]; rfl)
         have y5 := Kep.all g1 (a := ⟨w.heap.size + 1 + 1, 5, none⟩) (v := .int .i32 y.o) (by (repeat (first | rw [World.cell?_drew] | rw [World.cell?_alloc_past _ _ _ (by first | (simp; done) | (simp; omega))])); rw [World.cell?_alloc_at _ _ _ _ (by simp)]; rfl)
         have y6 := Kep.all g1 (a := ⟨w.heap.size + 1 + 1, 6, none⟩) (v := .int .i32 y.px) (by (repeat (first | rw [World.cell?_drew] | rw [World.cell?_alloc_past _ _ _ (by first | (simp; done) | (simp; omega))])); rw [World.cell?_alloc_at _ _ _ _ (by simp)]; rfl)
         have y7 := Kep.all g1 (a := ⟨w.heap.size + 1 + 1, 7, none⟩) (v := .int .i32 y.py) (by (repeat (first | rw [World.cell?_drew] | rw [World.cell?_alloc_past _ _ _ (by first | (simp; done) | (simp; omega))])); rw [World.cell?_alloc_at _ _ _ _ (by simp)]; rfl)
         have y8 := Kep.all g1 (a := ⟨w.heap.size + 1 + 1, 8, none⟩) (v := .int .i32 y.vx) (by (repeat (first | rw [World.cell?_drew] | rw [World.cell?_alloc_past _ _ _ (by first | (simp; done) | (simp; omega))])); rw [World.cell?_alloc_at _ _ _ _ (by simp)]; rfl)
         have y9 := Kep.all g1 (a := ⟨w.heap.size + 1 + 1, 9, none⟩) (v := .int .i32 y.vy) (by (repeat (first | rw [World.cell?_drew] | rw [World.cell?_alloc_past _ _ _ (by first | (simp; done) | (simp; omega))])); rw [World.cell?_alloc_at _ _ _ _ (by simp)]; rfl)
         have gg := kep_next (kep_more (kep_more (kep_more (Kep.refl _ _) _) _) _) g1
         have zc_w1 : w.heap.size < w1.heap.size := World.block_lt_of_cell? _ _ c0
         have zx_w1 : w.heap.size + 1 < w1.heap.size := World.block_lt_of_cell? _ _ x0
         have zy_w1 : w.heap.size + 1 + 1 < w1.heap.size := World.block_lt_of_cell? _ _ y0))
    go_ret
    exact ⟨rfl, gg⟩
  · rw [if_neg (by omega)] at ht
    have d2 : (M == 0) = false := by simp [c2]
    have hn := hnum (by omega)
    obtain ⟨u, hu⟩ : ∃ z, z = -v := ⟨_, rfl⟩
    obtain ⟨f, hf⟩ : ∃ z, z = 65536 + B := ⟨_, rfl⟩
    obtain ⟨N, hN⟩ : ∃ z, z = u * f := ⟨_, rfl⟩
    rw [← hu, ← hf, ← hN] at ht hn
    have w6 : IntKind.i64.wrap (-v) = u := by rw [IntKind.wrap_i64]; omega
    have w7 : wrap64 (-v) = u := by unfold wrap64; omega
    have w8 : IntKind.i64.wrap (65536 + B) = f := by rw [IntKind.wrap_i64]; omega
    have w9 : IntKind.i64.wrap (u * f) = N := by rw [← hN, IntKind.wrap_i64]; omega
    have C2 : Hid (JFl N M t) := Lib.hid (fun w => by rw [← ht]; exact reffl_any N M (by unfold I64; omega) (by omega) (by omega) w)
    clear a1 a2 a3 a4 a5 a6 a7 a8 b1 b2 b3 b4 b5 b6 b7 b8 hb h1 h2 hM hB hnum hbn c1 c2 hn hu hf hN ht
    go_enter Try.func33, Try.ntmps33
    go_wp2_with (first
      | ((with_reducible refine (C1.out _).mono ?_); rintro e w1 ⟨rfl, g1⟩
         have c0 := Kep.all g1 (a := ⟨w.heap.size, 0, none⟩) (v := .int .u32 lo) (by (repeat (first | rw [World.cell?_drew] | rw [World.cell?_alloc_past _ _ _ (by first | (simp; done) | (simp; omega))])); rw [World.cell?_alloc_at _ _ _ _ (by simp)]; rfl)
         have c1 := Kep.all g1 (a := ⟨w.heap.size, 1, none⟩) (v := .int .u32 hi) (by (repeat (first | rw [World.cell?_drew] | rw [World.cell?_alloc_past _ _ _ (by first | (simp; done) | (simp; omega))])); rw [World.cell?_alloc_at _ _ _ _ (by simp)]; rfl)
         have c2 := Kep.all g1 (a := ⟨w.heap.size, 2, none⟩) (v := .int .i32 nx) (by (repeat (first | rw [World.cell?_drew] | rw [World.cell?_alloc_past _ _ _ (by first | (simp; done) | (simp; omega))])); rw [World.cell?_alloc_at _ _ _ _ (by simp)]; rfl)
         have c3 := Kep.all g1 (a := ⟨w.heap.size, 3, none⟩) (v := .int .i32 ny) (by (repeat (first | rw [World.cell?_drew] | rw [World.cell?_alloc_past _ _ _ (by first | (simp; done) | (simp; omega))])); rw [World.cell?_alloc_at _ _ _ _ (by simp)]; rfl)
         have c4 := Kep.all g1 (a := ⟨w.heap.size, 4, none⟩) (v := .int .i32 dp) (by (repeat (first | rw [World.cell?_drew] | rw [World.cell?_alloc_past _ _ _ (by first | (simp; done) | (simp; omega))])); rw [World.cell?_alloc_at _ _ _ _ (by simp)]; rfl)
         have x0 := Kep.all g1 (a := ⟨w.heap.size + 1, 0, none⟩) (v := .int .u32 x.k) (by (repeat (first | rw [World.cell?_drew] | rw [World.cell?_alloc_past _ _ _ (by first | (simp; done) | (simp; omega))])); rw [World.cell?_alloc_at _ _ _ _ (by simp)]; rfl)
         have x1 := Kep.all g1 (a := ⟨w.heap.size + 1, 1, none⟩) (v := .int .i32 x.r) (by (repeat (first | rw [World.cell?_drew] | rw [World.cell?_alloc_past _ _ _ (by first | (simp; done) | (simp; omega))])); rw [World.cell?_alloc_at _ _ _ _ (by simp)]; rfl)
         have x2 := Kep.all g1 (a := ⟨w.heap.size + 1, 2, none⟩) (v := .int .i32 x.ax) (by (repeat (first | rw [World.cell?_drew] | rw [World.cell?_alloc_past _ _ _ (by first | (simp; done) | (simp; omega))])); rw [World.cell?_alloc_at _ _ _ _ (by simp)]; rfl)
         have x3 := Kep.all g1 (a := ⟨w.heap.size + 1, 3, none⟩) (v := .int .i32 x.ay) (by (repeat (first | rw [World.cell?_drew] | rw [World.cell?_alloc_past _ _ _ (by first | (simp; done) | (simp; omega))])); rw [World.cell?_alloc_at _ _ _ _ (by simp)]; rfl)
         have x4 := Kep.all g1 (a := ⟨w.heap.size + 1, 4, none⟩) (v := .int .i32 x.m) (by (repeat (first | rw [World.cell?_drew] | rw [World.cell?_alloc_past _ _ _ (by first | (simp; done) | (simp; omega))])); rw [World.cell?_alloc_at _ _ _ _ (by simp)]; rfl)
         have x5 := Kep.all g1 (a := ⟨w.heap.size + 1, 5, none⟩) (v := .int .i32 x.o) (by (repeat (first | rw [World.cell?_drew] | rw [World.cell?_alloc_past _ _ _ (by first | (simp; done) | (simp; omega))])); rw [World.cell?_alloc_at _ _ _ _ (by simp)]; rfl)
         have x6 := Kep.all g1 (a := ⟨w.heap.size + 1, 6, none⟩) (v := .int .i32 x.px) (by (repeat (first | rw [World.cell?_drew] | rw [World.cell?_alloc_past _ _ _ (by first | (simp; done) | (simp; omega))])); rw [World.cell?_alloc_at _ _ _ _ (by simp)]; rfl)
         have x7 := Kep.all g1 (a := ⟨w.heap.size + 1, 7, none⟩) (v := .int .i32 x.py) (by (repeat (first | rw [World.cell?_drew] | rw [World.cell?_alloc_past _ _ _ (by first | (simp; done) | (simp; omega))])); rw [World.cell?_alloc_at _ _ _ _ (by simp)]; rfl)
         have x8 := Kep.all g1 (a := ⟨w.heap.size + 1, 8, none⟩) (v := .int .i32 x.vx) (by (repeat (first | rw [World.cell?_drew] | rw [World.cell?_alloc_past _ _ _ (by first | (simp; done) | (simp; omega))])); rw [World.cell?_alloc_at _ _ _ _ (by simp)]; rfl)
         have x9 := Kep.all g1 (a := ⟨w.heap.size + 1, 9, none⟩) (v := .int .i32 x.vy) (by (repeat (first | rw [World.cell?_drew] | rw [World.cell?_alloc_past _ _ _ (by first | (simp; done) | (simp; omega))])); rw [World.cell?_alloc_at _ _ _ _ (by simp)]; rfl)
         have y0 := Kep.all g1 (a := ⟨w.heap.size + 1 + 1, 0, none⟩) (v := .int .u32 y.k) (by (repeat (first | rw [World.cell?_drew] | rw [World.cell?_alloc_past _ _ _ (by first | (simp; done) | (simp; omega))])); rw [World.cell?_alloc_at _ _ _ _ (by simp)]; rfl)
         have y1 := Kep.all g1 (a := ⟨w.heap.size + 1 + 1, 1, none⟩) (v := .int .i32 y.r) (by (repeat (first | rw [World.cell?_drew] | rw [World.cell?_alloc_past _ _ _ (by first | (simp; done) | (simp; omega))])); rw [World.cell?_alloc_at _ _ _ _ (by simp)]; rfl)
         have y2 := Kep.all g1 (a := ⟨w.heap.size + 1 + 1, 2, none⟩) (v := .int .i32 y.ax) (by (repeat (first | rw [World.cell?_drew] | rw [World.cell?_alloc_past _ _ _ (by first | (simp; done) | (simp; omega))])); rw [World.cell?_alloc_at _ _ _ _ (by simp)]; rfl)
         have y3 := Kep.all g1 (a := ⟨w.heap.size + 1 + 1, 3, none⟩) (v := .int .i32 y.ay) (by (repeat (first | rw [World.cell?_drew] | rw [World.cell?_alloc_past _ _ _ (by first | (simp; done) | (simp; omega))])); rw [World.cell?_alloc_at _ _ _ _ (by simp)]; rfl)
         have y4 := Kep.all g1 (a := ⟨w.heap.size + 1 + 1, 4, none⟩) (v := .int .i32 y.m) (by (repeat (first | rw [World.cell?_drew] | rw [World.cell?_alloc_past _ _ _ (by first | (simp; done) | (simp; omega))])); rw [World.cell?_alloc_at _ _ _ _ (by simp)]; rfl)
         have y5 := Kep.all g1 (a := ⟨w.heap.size + 1 + 1, 5, none⟩) (v := .int .i32 y.o) (by (repeat (first | rw [World.cell?_drew] | rw [World.cell?_alloc_past _ _ _ (by first | (simp; done) | (simp; omega))])); rw [World.cell?_alloc_at _ _ _ _ (by simp)]; rfl)
         have y6 := Kep.all g1 (a := ⟨w.heap.size + 1 + 1, 6, none⟩) (v := .int .i32 y.px) (by (repeat (first | rw [World.cell?_drew] | rw [World.cell?_alloc_past _ _ _ (by first | (simp; done) | (simp; omega))])); rw [World.cell?_alloc_at _ _ _ _ (by simp)]; rfl)
         have y7 := Kep.all g1 (a := ⟨w.heap.size + 1 + 1, 7, none⟩) (v := .int .i32 y.py) (by (repeat (first | rw [World.cell?_drew] | rw [World.cell?_alloc_past _ _ _ (by first | (simp; done) | (simp; omega))])); rw [World.cell?_alloc_at _ _ _ _ (by simp)]; rfl)
         have y8 := Kep.all g1 (a := ⟨w.heap.size + 1 + 1, 8, none⟩) (v := .int .i32 y.vx) (by (repeat (first | rw [World.cell?_drew] | rw [World.cell?_alloc_past _ _ _ (by first | (simp; done) | (simp; omega))])); rw [World.cell?_alloc_at _ _ _ _ (by simp)]; rfl)
         have y9 := Kep.all g1 (a := ⟨w.heap.size + 1 + 1, 9, none⟩) (v := .int .i32 y.vy) (by (repeat (first | rw [World.cell?_drew] | rw [World.cell?_alloc_past _ _ _ (by first | (simp; done) | (simp; omega))])); rw [World.cell?_alloc_at _ _ _ _ (by simp)]; rfl)
         have gg := kep_next (kep_more (kep_more (kep_more (Kep.refl _ _) _) _) _) g1
         have zc_w1 : w.heap.size < w1.heap.size := World.block_lt_of_cell? _ _ c0
         have zx_w1 : w.heap.size + 1 < w1.heap.size := World.block_lt_of_cell? _ _ x0
         have zy_w1 : w.heap.size + 1 + 1 < w1.heap.size := World.block_lt_of_cell? _ _ y0)
      | ((with_reducible refine (C2.out _).mono ?_); rintro e w' ⟨rfl, rfl⟩))
    go_ret
    exact ⟨rfl, gg⟩
set_option maxRecDepth 100000 in
set_option maxHeartbeats 2000000 in
theorem jch {j i n t : Int} (hj : 0 ≤ j ∧ j ≤ 8796093022208) (hi : 0 ≤ i ∧ i ≤ 1048576) (hn : Nr n) (ht : chI j i n = t) : JCh j i n t := fun w => by
  have hk := k_bd hj hi
  have hc := ch_bd hk.2.2 hn
  unfold chI at ht
  obtain ⟨e1, he1⟩ : ∃ e, e = mse j i 16 := ⟨_, rfl⟩
  have m1 : msv j i 16 = j * i / 65536 := msv_16 (by omega) (by omega)
  obtain ⟨k, hkk⟩ : ∃ z, z = j * i / 65536 := ⟨_, rfl⟩
  rw [← hkk] at hk hc m1 ht
  obtain ⟨e2, he2⟩ : ∃ e, e = mse k n 16 := ⟨_, rfl⟩
  have m2 : msv k n 16 = t := by rw [← ht]; exact msv_16 (by omega) (by omega)
  have C1 : Hid (∀ w, Calls Try.prog 43 #[.int .i64 j, .int .i64 i, .int .i64 16] w fun e w' => e = .returned (.tuple #[.int .i64 k, .int .i64 e1]) ∧ Kep w.heap.size w w') := Lib.hid (fun w => by rw [← m1, he1]; exact kep_calls (refms_any j i 16 (by unfold I64; omega) (by unfold I64; omega) w))
  have C2 : Hid (∀ w, Calls Try.prog 43 #[.int .i64 k, .int .i64 n, .int .i64 16] w fun e w' => e = .returned (.tuple #[.int .i64 t, .int .i64 e2]) ∧ Kep w.heap.size w w') := Lib.hid (fun w => by rw [← m2, he2]; exact kep_calls (refms_any k n 16 (by unfold I64; omega) (by unfold I64; omega) w))
  have w1 : IntKind.i64.wrap i = i := by rw [IntKind.wrap_i64]; omega
  have w2 : IntKind.i64.wrap n = n := by rw [IntKind.wrap_i64]; omega
  clear hj hi hn ht hk hc he1 m1 hkk he2 m2
  go_enter Try.func34, Try.ntmps34
  go_wp2_with (first
    | ((with_reducible refine (C1.out _).mono ?_); rintro e w1 ⟨rfl, g1⟩)
    | ((with_reducible refine (C2.out _).mono ?_); rintro e w2 ⟨rfl, g2⟩))
  go_ret
  exact ⟨rfl, kep_next g1 g2⟩
def okI (x : Bd) : Prop := chk x.r x.ax x.ay x.m x.o x.px x.py x.vx x.vy = 0
instance (x : Bd) : Decidable (okI x) := by unfold okI; infer_instance
def imB (nx ny : Int) (x y : Bd) : Bool := decide (okI x) && (decide (okI y) && (decide (Nr nx) && decide (Nr ny)))
theorem imB_iff {nx ny : Int} {x y : Bd} : imB nx ny x y = true ↔ okI x ∧ okI y ∧ Nr nx ∧ Nr ny := by
  unfold imB
  rw [Bool.and_eq_true, Bool.and_eq_true, Bool.and_eq_true, decide_eq_true_iff, decide_eq_true_iff, decide_eq_true_iff, decide_eq_true_iff]
end Go.Proofs.Ytbeaoogjcgplnaa
end
