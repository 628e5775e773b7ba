/-
  Package vec: the walk of the law VecSymmetric.
-/
import Derived.Test.YtohkacgmdboknaaVecCon
import Derived.Deep.DeepCutAuto
namespace Go.Proofs.Ytohkacgmdboknaa
open Go.RowKit Go.Lib

set_option maxRecDepth 100000 in
set_option maxHeartbeats 4000000 in
theorem symmetric_walk (a b c d x y X Y n s t u v p : Int) (cnd : Bool) (hcnd : Hid (cnd = decide (-2147483648 < a ∧ -2147483648 < b ∧ -2147483648 < c ∧ -2147483648 < d))) (A : Hid Awake)
    (hm : -2147483648 < a → -2147483648 < b → -2147483648 < c → -2147483648 < d → Hid (Dot4 a b c d t) ∧ Hid (Dot4 c d a b t) ∧ Hid (Cro4 a b c d u) ∧ Hid (Cro4 c d a b v) ∧ IntKind.i64.wrap (-v) = u ∧ Hid (Per2 a b p a) ∧ Hid (Dot4 a b p a 0) ∧ Hid (Cro4 a b a b 0))
    (hi : ¬ InD x ∨ (InD x ∧ ¬ InD y) ∨ (Hid (In1 x true) ∧ Hid (In1 y true) ∧ Hid (Len2 x y n) ∧ Hid (Len2 Y x n) ∧ Hid (Lsq2 x y s) ∧ Hid (Lsq2 X Y s) ∧ IntKind.i64.wrap (-x) = X ∧ IntKind.i64.wrap (-y) = Y ∧ wrap64 (-x) = X ∧ wrap64 (-y) = Y)) (w : World) :
    Calls Try.prog 5 #[.agg #[.int .i32 a, .int .i32 b], .agg #[.int .i32 c, .int .i32 d], .int .i64 x, .int .i64 y] w fun e w' => e = .returned (.bool true) ∧ Grown w w' := by
  go_enter Try.func5, Try.ntmps5
  go_upto_region 3 with ((with_reducible refine (A.out _).mono ?_); rintro e w1 ⟨rfl, g1⟩)
  have g0 := grown_trans (((Grown.refl _).alloc _ _).alloc _ _) g1
  have k0 := kept_cell g1 (b := w.heap.size) (o := 0) (v := .int .i32 a) (by rw [World.cell?_alloc_past _ _ _ (by first | (simp; done) | (simp; omega)), World.cell?_alloc_at _ _ _ _ (by simp)]; rfl)
  have k1 := kept_cell g1 (b := w.heap.size) (o := 1) (v := .int .i32 b) (by rw [World.cell?_alloc_past _ _ _ (by first | (simp; done) | (simp; omega)), World.cell?_alloc_at _ _ _ _ (by simp)]; rfl)
  have k2 := kept_cell g1 (b := w.heap.size + 1) (o := 0) (v := .int .i32 c) (by rw [World.cell?_alloc_at _ _ _ _ (by simp)]; rfl)
  have k3 := kept_cell g1 (b := w.heap.size + 1) (o := 1) (v := .int .i32 d) (by rw [World.cell?_alloc_at _ _ _ _ (by simp)]; rfl)
  go_cut [28] (fun s28 wx => s28 = .bool cnd ∧ wx = w1)
  case first =>
    by_cases h1 : -2147483648 < a
    · by_cases h2 : -2147483648 < b
      · by_cases h3 : -2147483648 < c
        · by_cases h4 : -2147483648 < d
          · go_wp2_with fail
            go_meet
            exact ⟨by rw [hcnd.out, decide_eq_true (And.intro h1 (And.intro h2 (And.intro h3 h4)))], rfl⟩
          · go_wp2_with fail
            go_meet
            exact ⟨by rw [hcnd.out, decide_eq_false (by omega)], rfl⟩
        · go_wp2_with fail
          go_meet
          exact ⟨by rw [hcnd.out, decide_eq_false (by omega)], rfl⟩
      · go_wp2_with fail
        go_meet
        exact ⟨by rw [hcnd.out, decide_eq_false (by omega)], rfl⟩
    · go_wp2_with fail
      go_meet
      exact ⟨by rw [hcnd.out, decide_eq_false (by omega)], rfl⟩
  case rest =>
    obtain ⟨rfl, rfl⟩ := hcut
    go_upto_if 28 with fail
    go_cut [8] (fun s8 wx => s8 = .bool false ∧ Grown w wx)
    case first =>
      by_cases hc : cnd = true
      · subst hc
        have hh := of_decide_eq_true hcnd.out.symm
        obtain ⟨C1, C2, C3, C4, hv, C5, C6, C7⟩ := hm hh.1 hh.2.1 hh.2.2.1 hh.2.2.2
        clear hm hi hh hcnd
        go_wp2_with fail
        go_region_held3 (fun w' => w'.cell? ⟨w.heap.size, 0, none⟩ = some (.int .i32 a) ∧ w'.cell? ⟨w.heap.size, 1, none⟩ = some (.int .i32 b) ∧ w'.cell? ⟨w.heap.size + 1, 0, none⟩ = some (.int .i32 c) ∧ w'.cell? ⟨w.heap.size + 1, 1, none⟩ = some (.int .i32 d) ∧ Grown w w')
          (first
            | assumption
            | exact ⟨by rw [World.cell?_drew]; exact k0, by rw [World.cell?_drew]; exact k1, by rw [World.cell?_drew]; exact k2, by rw [World.cell?_drew]; exact k3, g0.drew⟩
            | (go_split_ands; exact ⟨kept_cell g (by assumption), kept_cell g (by assumption), kept_cell g (by assumption), kept_cell g (by assumption), grown_trans (by assumption) g⟩))
          (first
            | ((with_reducible refine (C1.out _).mono ?_); rintro e w' ⟨rfl, g⟩)
            | ((with_reducible refine (C2.out _).mono ?_); rintro e w' ⟨rfl, g⟩)
            | ((with_reducible refine (C3.out _).mono ?_); rintro e w' ⟨rfl, g⟩)
            | ((with_reducible refine (C4.out _).mono ?_); rintro e w' ⟨rfl, g⟩)
            | ((with_reducible refine (C5.out _).mono ?_); rintro e w' ⟨rfl, g⟩)
            | ((with_reducible refine (C6.out _).mono ?_); rintro e w' ⟨rfl, g⟩)
            | ((with_reducible refine (C7.out _).mono ?_); rintro e w' ⟨rfl, g⟩))
        go_wp2_with fail
        rename_i hh
        have gg := hh.2.2.2.2
        clear hh
        go_meet
        exact ⟨rfl, gg⟩
      · have hc2 : cnd = false := by simpa using hc
        subst hc2
        go_wp2_with fail
        go_meet
        exact ⟨rfl, g0⟩
    case rest =>
      obtain ⟨rfl, g2⟩ := hcut
      rcases hi with hx | ⟨hx, hy⟩ | ⟨I1, I2, D1, D2, D3, D4, f1, f2, f3, f4⟩
      · have I1 := Lib.hid (in0 hx)
        clear hx
        go_wp2_with (first | ((with_reducible refine (I1.out _).mono ?_); rintro e w' ⟨rfl, rfl⟩))
        go_ret
        exact ⟨rfl, g2⟩
      · have I1 := Lib.hid (in1 hx)
        have I2 := Lib.hid (in0 hy)
        clear hx hy
        go_wp2_with (first | ((with_reducible refine (I1.out _).mono ?_); rintro e w' ⟨rfl, rfl⟩) | ((with_reducible refine (I2.out _).mono ?_); rintro e w' ⟨rfl, rfl⟩))
        go_ret
        exact ⟨rfl, g2⟩
      · go_wp2_with (first | ((with_reducible refine (I1.out _).mono ?_); rintro e w' ⟨rfl, rfl⟩) | ((with_reducible refine (I2.out _).mono ?_); rintro e w' ⟨rfl, rfl⟩) | ((with_reducible refine (D1.out _).mono ?_); rintro e w' ⟨rfl, rfl⟩) | ((with_reducible refine (D2.out _).mono ?_); rintro e w' ⟨rfl, rfl⟩) | ((with_reducible refine (D3.out _).mono ?_); rintro e w' ⟨rfl, rfl⟩) | ((with_reducible refine (D4.out _).mono ?_); rintro e w' ⟨rfl, rfl⟩))
        go_ret
        exact ⟨rfl, g2⟩

theorem mul_in {a b : Int} (ha : I32 a) (hb : I32 b) (h1 : -2147483648 < a) (h2 : -2147483648 < b) : -4611686014132420609 ≤ a * b ∧ a * b ≤ 4611686014132420609 := by
  obtain ⟨_, a2⟩ := ha; obtain ⟨_, b2⟩ := hb
  have k : ∀ x y : Int, 0 ≤ x → x ≤ 2147483647 → 0 ≤ y → y ≤ 2147483647 → 0 ≤ x * y ∧ x * y ≤ 4611686014132420609 := fun x y a b c d =>
    ⟨Int.mul_nonneg a c, Int.mul_le_mul b d c (by omega)⟩
  by_cases c : a < 0 <;> by_cases d : b < 0
  · have := k (-a) (-b) (by omega) (by omega) (by omega) (by omega); rw [Int.neg_mul_neg] at this; omega
  · have := k (-a) b (by omega) (by omega) (by omega) (by omega); rw [Int.neg_mul] at this; omega
  · have := k a (-b) (by omega) (by omega) (by omega) (by omega); rw [Int.mul_neg] at this; omega
  · have := k a b (by omega) (by omega) (by omega) (by omega); omega

theorem lsq_comm (a b : Int) : lsq (-b) a = lsq a b := by unfold lsq; rw [Int.neg_mul_neg]; omega
theorem lsq_neg (a b : Int) : lsq (-a) (-b) = lsq a b := by unfold lsq; rw [Int.neg_mul_neg, Int.neg_mul_neg]

theorem symmetric_all (a b c d x y : Int) (ha : I32 a) (hb : I32 b) (hc : I32 c) (hd : I32 d) (w : World) :
    Calls Try.prog 5 #[.agg #[.int .i32 a, .int .i32 b], .agg #[.int .i32 c, .int .i32 d], .int .i64 x, .int .i64 y] w fun e w' => e = .returned (.bool true) ∧ Grown w w' := by
  refine symmetric_walk a b c d x y (-x) (-y) (rt (lsq x y)) (lsq x y) (a * c + b * d) (a * d - b * c) (c * b - d * a) (sat (-b)) _ (Lib.hid rfl) (Lib.hid awake_any) ?_ ?_ w
  · intro h1 h2 h3 h4
    have m1 := mul_in ha hc h1 h3
    have m2 := mul_in hb hd h2 h4
    have m3 := mul_in ha hd h1 h4
    have m4 := mul_in hb hc h2 h3
    have e1 : c * a + d * b = a * c + b * d := by grind
    have e2 : c * b - d * a = -(a * d - b * c) := by grind
    have hs : sat (-b) = -b := sat_of ⟨by have := hb.2; omega, by omega⟩
    have hnb : I32 (-b) := ⟨by have := hb.2; omega, by omega⟩
    refine ⟨Lib.hid (dot4 ha hb hc hd rfl (by omega) (by omega)), Lib.hid (dot4 hc hd ha hb e1 (by omega) (by omega)), Lib.hid (cro4 ha hb hc hd rfl (by omega) (by omega)), Lib.hid (cro4 hc hd ha hb rfl (by rw [e2]; omega) (by rw [e2]; omega)), ?_, Lib.hid (per2 hb rfl), ?_, Lib.hid (cro4 ha hb ha hb (by grind) (by decide) (by decide))⟩
    · have e3 : -(c * b - d * a) = a * d - b * c := by grind
      rw [e3, IntKind.wrap_i64]; omega
    · rw [hs]; exact Lib.hid (dot4 ha hb hnb ha (by grind) (by decide) (by decide))
  · by_cases hx : InD x
    · by_cases hy : InD y
      · have R := rt_is (lsq_in hx hy).1
        have nx : InD (-x) := ⟨by have := hx.2; omega, by have := hx.1; omega⟩
        have ny : InD (-y) := ⟨by have := hy.2; omega, by have := hy.1; omega⟩
        have b1 := hx.1; have b2 := hx.2; have b3 := hy.1; have b4 := hy.2
        exact .inr (.inr ⟨Lib.hid (in1 hx), Lib.hid (in1 hy), Lib.hid (len2 hx hy R), Lib.hid (len2 ny hx (by rw [lsq_comm]; exact R)), Lib.hid (lsq2 hx hy rfl), Lib.hid (lsq2 nx ny (lsq_neg x y)), by rw [IntKind.wrap_i64]; omega, by rw [IntKind.wrap_i64]; omega, by unfold wrap64; omega, by unfold wrap64; omega⟩)
      · exact .inr (.inl ⟨hx, hy⟩)
    · exact .inl hx
end Go.Proofs.Ytohkacgmdboknaa
