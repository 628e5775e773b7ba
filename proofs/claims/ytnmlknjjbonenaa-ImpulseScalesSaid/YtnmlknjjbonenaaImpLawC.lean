/-
  Package impulse: the law ImpulseScales.
-/
import Derived.Test.YtnmlknjjbonenaaImpCon
import Derived.Deep.DeepCutAuto
import Derived.Deep.QuietTactic
import Derived.BigQuiet
namespace Go.Proofs.Ytnmlknjjbonenaa
open Go.RowKit Go.Lib

set_option maxRecDepth 100000 in
set_option maxHeartbeats 4000000 in
theorem icl_bad (AW : Hid IAwake) (nx ny j m i : Int) (z1 z2 : Bool) (I1 : Hid (∀ w, Calls Try.prog 18 #[.int .i32 nx, .int .i32 65536] w fun e w' => e = .returned (.bool z1) ∧ w = w')) (I2 : Hid (∀ w, Calls Try.prog 18 #[.int .i32 ny, .int .i32 65536] w fun e w' => e = .returned (.bool z2) ∧ w = w')) (hb : ¬ (z1 = true ∧ z2 = true ∧ 0 ≤ j ∧ j ≤ m ∧ m ≤ 8796093022208 ∧ 0 ≤ i ∧ i ≤ 1048576)) (w : World) : Calls Try.prog 5 #[.agg #[.int .i32 nx, .int .i32 ny], .int .i64 j, .int .i64 m, .int .i32 i] w fun e w' => e = .returned (.bool true) ∧ Kep w.heap.size w w' := by
  cases z1
  · clear hb
    go_enter Try.func5, Try.ntmps5
    go_wp2_with (first
      | ((with_reducible refine (AW.out _).mono ?_); rintro e w1 ⟨rfl, g1⟩
         first
           | (replace gg := kep_next gg g1)
           | (have n0 := Kep.all g1 (a := ⟨w.heap.size, 0, none⟩) (v := .int .i32 nx) (by (repeat (first | rw [World.cell?_drew] | rw [World.cell?_alloc_past _ _ _ (by first | (simp; done) | (simp; omega))])); rw [World.cell?_alloc_at _ _ _ _ (by simp)]; rfl)
              have n1 := Kep.all g1 (a := ⟨w.heap.size, 1, none⟩) (v := .int .i32 ny) (by (repeat (first | rw [World.cell?_drew] | rw [World.cell?_alloc_past _ _ _ (by first | (simp; done) | (simp; omega))])); rw [World.cell?_alloc_at _ _ _ _ (by simp)]; rfl)
              have gg := kep_next (kep_more (Kep.refl _ _) _) g1
              have zn_w1 : w.heap.size < w1.heap.size := World.block_lt_of_cell? _ _ n0))
      | ((with_reducible refine (I1.out _).mono ?_); rintro e w' ⟨rfl, rfl⟩))
    go_ret
    exact ⟨rfl, gg⟩
  cases z2
  · clear hb
    go_enter Try.func5, Try.ntmps5
    go_wp2_with (first
      | ((with_reducible refine (AW.out _).mono ?_); rintro e w1 ⟨rfl, g1⟩
         first
           | (replace gg := kep_next gg g1)
           | (have n0 := Kep.all g1 (a := ⟨w.heap.size, 0, none⟩) (v := .int .i32 nx) (by (repeat (first | rw [World.cell?_drew] | rw [World.cell?_alloc_past _ _ _ (by first | (simp; done) | (simp; omega))])); rw [World.cell?_alloc_at _ _ _ _ (by simp)]; rfl)
              have n1 := Kep.all g1 (a := ⟨w.heap.size, 1, none⟩) (v := .int .i32 ny) (by (repeat (first | rw [World.cell?_drew] | rw [World.cell?_alloc_past _ _ _ (by first | (simp; done) | (simp; omega))])); rw [World.cell?_alloc_at _ _ _ _ (by simp)]; rfl)
              have gg := kep_next (kep_more (Kep.refl _ _) _) g1
              have zn_w1 : w.heap.size < w1.heap.size := World.block_lt_of_cell? _ _ n0))
      | ((with_reducible refine (I1.out _).mono ?_); rintro e w' ⟨rfl, rfl⟩)
      | ((with_reducible refine (I2.out _).mono ?_); rintro e w' ⟨rfl, rfl⟩))
    go_ret
    exact ⟨rfl, gg⟩
  by_cases k0 : j < 0
  · have dk0 : decide (j < 0) = true := decide_eq_true k0
    clear hb
    go_enter Try.func5, Try.ntmps5
    go_wp2_with (first
      | ((with_reducible refine (AW.out _).mono ?_); rintro e w1 ⟨rfl, g1⟩
         first
           | (replace gg := kep_next gg g1)
           | (have n0 := Kep.all g1 (a := ⟨w.heap.size, 0, none⟩) (v := .int .i32 nx) (by (repeat (first | rw [World.cell?_drew] | rw [World.cell?_alloc_past _ _ _ (by first | (simp; done) | (simp; omega))])); rw [World.cell?_alloc_at _ _ _ _ (by simp)]; rfl)
              have n1 := Kep.all g1 (a := ⟨w.heap.size, 1, none⟩) (v := .int .i32 ny) (by (repeat (first | rw [World.cell?_drew] | rw [World.cell?_alloc_past _ _ _ (by first | (simp; done) | (simp; omega))])); rw [World.cell?_alloc_at _ _ _ _ (by simp)]; rfl)
              have gg := kep_next (kep_more (Kep.refl _ _) _) g1
              have zn_w1 : w.heap.size < w1.heap.size := World.block_lt_of_cell? _ _ n0))
      | ((with_reducible refine (I1.out _).mono ?_); rintro e w' ⟨rfl, rfl⟩)
      | ((with_reducible refine (I2.out _).mono ?_); rintro e w' ⟨rfl, rfl⟩))
    go_ret
    exact ⟨rfl, gg⟩
  have dk0 : decide (j < 0) = false := decide_eq_false k0
  by_cases k1 : m < j
  · have dk1 : decide (m < j) = true := decide_eq_true k1
    clear hb
    go_enter Try.func5, Try.ntmps5
    go_wp2_with (first
      | ((with_reducible refine (AW.out _).mono ?_); rintro e w1 ⟨rfl, g1⟩
         first
           | (replace gg := kep_next gg g1)
           | (have n0 := Kep.all g1 (a := ⟨w.heap.size, 0, none⟩) (v := .int .i32 nx) (by (repeat (first | rw [World.cell?_drew] | rw [World.cell?_alloc_past _ _ _ (by first | (simp; done) | (simp; omega))])); rw [World.cell?_alloc_at _ _ _ _ (by simp)]; rfl)
              have n1 := Kep.all g1 (a := ⟨w.heap.size, 1, none⟩) (v := .int .i32 ny) (by (repeat (first | rw [World.cell?_drew] | rw [World.cell?_alloc_past _ _ _ (by first | (simp; done) | (simp; omega))])); rw [World.cell?_alloc_at _ _ _ _ (by simp)]; rfl)
              have gg := kep_next (kep_more (Kep.refl _ _) _) g1
              have zn_w1 : w.heap.size < w1.heap.size := World.block_lt_of_cell? _ _ n0))
      | ((with_reducible refine (I1.out _).mono ?_); rintro e w' ⟨rfl, rfl⟩)
      | ((with_reducible refine (I2.out _).mono ?_); rintro e w' ⟨rfl, rfl⟩))
    go_ret
    exact ⟨rfl, gg⟩
  have dk1 : decide (m < j) = false := decide_eq_false k1
  by_cases k2 : 8796093022208 < m
  · have dk2 : decide ((8796093022208 : Int) < m) = true := decide_eq_true k2
    clear hb
    go_enter Try.func5, Try.ntmps5
    go_wp2_with (first
      | ((with_reducible refine (AW.out _).mono ?_); rintro e w1 ⟨rfl, g1⟩
         first
           | (replace gg := kep_next gg g1)
           | (have n0 := Kep.all g1 (a := ⟨w.heap.size, 0, none⟩) (v := .int .i32 nx) (by (repeat (first | rw [World.cell?_drew] | rw [World.cell?_alloc_past _ _ _ (by first | (simp; done) | (simp; omega))])); rw [World.cell?_alloc_at _ _ _ _ (by simp)]; rfl)
              have n1 := Kep.all g1 (a := ⟨w.heap.size, 1, none⟩) (v := .int .i32 ny) (by (repeat (first | rw [World.cell?_drew] | rw [World.cell?_alloc_past _ _ _ (by first | (simp; done) | (simp; omega))])); rw [World.cell?_alloc_at _ _ _ _ (by simp)]; rfl)
              have gg := kep_next (kep_more (Kep.refl _ _) _) g1
              have zn_w1 : w.heap.size < w1.heap.size := World.block_lt_of_cell? _ _ n0))
      | ((with_reducible refine (I1.out _).mono ?_); rintro e w' ⟨rfl, rfl⟩)
      | ((with_reducible refine (I2.out _).mono ?_); rintro e w' ⟨rfl, rfl⟩))
    go_ret
    exact ⟨rfl, gg⟩
  have dk2 : decide ((8796093022208 : Int) < m) = false := decide_eq_false k2
  by_cases k3 : i < 0
  · have dk3 : decide (i < 0) = true := decide_eq_true k3
    clear hb
    go_enter Try.func5, Try.ntmps5
    go_wp2_with (first
      | ((with_reducible refine (AW.out _).mono ?_); rintro e w1 ⟨rfl, g1⟩
         first
           | (replace gg := kep_next gg g1)
           | (have n0 := Kep.all g1 (a := ⟨w.heap.size, 0, none⟩) (v := .int .i32 nx) (by (repeat (first | rw [World.cell?_drew] | rw [World.cell?_alloc_past _ _ _ (by first | (simp; done) | (simp; omega))])); rw [World.cell?_alloc_at _ _ _ _ (by simp)]; rfl)
              have n1 := Kep.all g1 (a := ⟨w.heap.size, 1, none⟩) (v := .int .i32 ny) (by (repeat (first | rw [World.cell?_drew] | rw [World.cell?_alloc_past _ _ _ (by first | (simp; done) | (simp; omega))])); rw [World.cell?_alloc_at _ _ _ _ (by simp)]; rfl)
              have gg := kep_next (kep_more (Kep.refl _ _) _) g1
              have zn_w1 : w.heap.size < w1.heap.size := World.block_lt_of_cell? _ _ n0))
      | ((with_reducible refine (I1.out _).mono ?_); rintro e w' ⟨rfl, rfl⟩)
      | ((with_reducible refine (I2.out _).mono ?_); rintro e w' ⟨rfl, rfl⟩))
    go_ret
    exact ⟨rfl, gg⟩
  have dk3 : decide (i < 0) = false := decide_eq_false k3
  have dk4 : decide ((1048576 : Int) < i) = true := decide_eq_true (by apply Int.not_le.1; intro q; exact hb ⟨rfl, rfl, by omega, by omega, by omega, by omega, q⟩)
  clear hb
  go_enter Try.func5, Try.ntmps5
  go_wp2_with (first
    | ((with_reducible refine (AW.out _).mono ?_); rintro e w1 ⟨rfl, g1⟩
       first
         | (replace gg := kep_next gg g1)
         | (have n0 := Kep.all g1 (a := ⟨w.heap.size, 0, none⟩) (v := .int .i32 nx) (by (repeat (first | rw [World.cell?_drew] | rw [World.cell?_alloc_past _ _ _ (by first | (simp; done) | (simp; omega))])); rw [World.cell?_alloc_at _ _ _ _ (by simp)]; rfl)
            have n1 := Kep.all g1 (a := ⟨w.heap.size, 1, none⟩) (v := .int .i32 ny) (by (repeat (first | rw [World.cell?_drew] | rw [World.cell?_alloc_past _ _ _ (by first | (simp; done) | (simp; omega))])); rw [World.cell?_alloc_at _ _ _ _ (by simp)]; rfl)
            have gg := kep_next (kep_more (Kep.refl _ _) _) g1
            have zn_w1 : w.heap.size < w1.heap.size := World.block_lt_of_cell? _ _ n0))
    | ((with_reducible refine (I1.out _).mono ?_); rintro e w' ⟨rfl, rfl⟩)
    | ((with_reducible refine (I2.out _).mono ?_); rintro e w' ⟨rfl, rfl⟩))
  go_ret
  exact ⟨rfl, gg⟩
set_option maxRecDepth 100000 in
set_option maxHeartbeats 8000000 in
theorem icl_main (AW : Hid IAwake) (nx ny j m i p q r s : Int) (I1 : Hid (∀ w, Calls Try.prog 18 #[.int .i32 nx, .int .i32 65536] w fun e w' => e = .returned (.bool true) ∧ w = w')) (I2 : Hid (∀ w, Calls Try.prog 18 #[.int .i32 ny, .int .i32 65536] w fun e w' => e = .returned (.bool true) ∧ w = w')) (dk0 : decide (j < 0) = false) (dk1 : decide (m < j) = false) (dk2 : decide ((8796093022208 : Int) < m) = false) (dk3 : decide (i < 0) = false) (dk4 : decide ((1048576 : Int) < i) = false) (D1 : Hid (ICh j i nx ny p q)) (D2 : Hid (ICh m i nx ny r s)) (D0 : Hid (ICh 0 i nx ny 0 0)) (hp : 0 ≤ nx → 0 ≤ p ∧ p ≤ r) (hp2 : nx < 0 → p ≤ 0 ∧ r ≤ p) (hq : 0 ≤ ny → 0 ≤ q ∧ q ≤ s) (hq2 : ny < 0 → q ≤ 0 ∧ s ≤ q) (w : World) : Calls Try.prog 5 #[.agg #[.int .i32 nx, .int .i32 ny], .int .i64 j, .int .i64 m, .int .i32 i] w fun e w' => e = .returned (.bool true) ∧ Kep w.heap.size w w' := by
  by_cases cx : 0 ≤ nx
  · by_cases cy : 0 ≤ ny
    · have x1 : decide (0 ≤ nx) = true := decide_eq_true cx
      have x2 : decide (nx < 0) = false := decide_eq_false (by omega)
      have x3 : decide (p < 0) = false := decide_eq_false (by have := hp cx; omega)
      have x4 : decide (r < p) = false := decide_eq_false (by have := hp cx; omega)
      have y1 : decide (0 ≤ ny) = true := decide_eq_true cy
      have y2 : decide (ny < 0) = false := decide_eq_false (by omega)
      have y3 : decide (0 ≤ q) = true := decide_eq_true (by have := hq cy; omega)
      have y4 : decide (q ≤ s) = true := decide_eq_true (by have := hq cy; omega)
      clear cx cy hp hp2 hq hq2
      go_enter Try.func5, Try.ntmps5
      go_wp2_with (first
        | ((with_reducible refine (AW.out _).mono ?_); rintro e w1 ⟨rfl, g1⟩
           have n0 := Kep.all g1 (a := ⟨w.heap.size, 0, none⟩) (v := .int .i32 nx) (by (repeat (first | rw [World.cell?_drew] | rw [World.cell?_alloc_past _ _ _ (by first | (simp; done) | (simp; omega))])); rw [World.cell?_alloc_at _ _ _ _ (by simp)]; rfl)
           have n1 := Kep.all g1 (a := ⟨w.heap.size, 1, none⟩) (v := .int .i32 ny) (by (repeat (first | rw [World.cell?_drew] | rw [World.cell?_alloc_past _ _ _ (by first | (simp; done) | (simp; omega))])); rw [World.cell?_alloc_at _ _ _ _ (by simp)]; rfl)
           have gg := kep_next (kep_more (Kep.refl _ _) _) g1
           have zn_w1 : w.heap.size < w1.heap.size := World.block_lt_of_cell? _ _ n0)
        | ((with_reducible refine (I1.out _).mono ?_); rintro e w' ⟨rfl, rfl⟩)
        | ((with_reducible refine (I2.out _).mono ?_); rintro e w' ⟨rfl, rfl⟩)
        | ((with_reducible refine (D1.out _).mono ?_); rintro e w2 ⟨rfl, g2⟩
           replace n0 := Kep.all g2 (a := ⟨w.heap.size, 0, none⟩) (v := .int .i32 nx) n0
           replace n1 := Kep.all g2 (a := ⟨w.heap.size, 1, none⟩) (v := .int .i32 ny) n1
           replace gg := kep_next gg g2
           have zn_w2 : w.heap.size < w2.heap.size := World.block_lt_of_cell? _ _ n0)
        | ((with_reducible refine (D2.out _).mono ?_); rintro e w3 ⟨rfl, g3⟩
           replace n0 := Kep.all g3 (a := ⟨w.heap.size, 0, none⟩) (v := .int .i32 nx) n0
           replace n1 := Kep.all g3 (a := ⟨w.heap.size, 1, none⟩) (v := .int .i32 ny) n1
           replace gg := kep_next gg g3
           have zn_w3 : w.heap.size < w3.heap.size := World.block_lt_of_cell? _ _ n0)
        | ((with_reducible refine (D0.out _).mono ?_); rintro e w4 ⟨rfl, g4⟩
           replace n0 := Kep.all g4 (a := ⟨w.heap.size, 0, none⟩) (v := .int .i32 nx) n0
           replace n1 := Kep.all g4 (a := ⟨w.heap.size, 1, none⟩) (v := .int .i32 ny) n1
           replace gg := kep_next gg g4
           have zn_w4 : w.heap.size < w4.heap.size := World.block_lt_of_cell? _ _ n0))
      go_ret
      exact ⟨rfl, gg⟩
    · have x1 : decide (0 ≤ nx) = true := decide_eq_true cx
      have x2 : decide (nx < 0) = false := decide_eq_false (by omega)
      have x3 : decide (p < 0) = false := decide_eq_false (by have := hp cx; omega)
      have x4 : decide (r < p) = false := decide_eq_false (by have := hp cx; omega)
      have y1 : decide (0 ≤ ny) = false := decide_eq_false cy
      have y2 : decide (ny < 0) = true := decide_eq_true (by omega)
      have y3 : decide (q ≤ 0) = true := decide_eq_true (by have := hq2 (by omega); omega)
      have y4 : decide (s ≤ q) = true := decide_eq_true (by have := hq2 (by omega); omega)
      clear cx cy hp hp2 hq hq2
      go_enter Try.func5, Try.ntmps5
      go_wp2_with (first
        | ((with_reducible refine (AW.out _).mono ?_); rintro e w1 ⟨rfl, g1⟩
           have n0 := Kep.all g1 (a := ⟨w.heap.size, 0, none⟩) (v := .int .i32 nx) (by (repeat (first | rw [World.cell?_drew] | rw [World.cell?_alloc_past _ _ _ (by first | (simp; done) | (simp; omega))])); rw [World.cell?_alloc_at _ _ _ _ (by simp)]; rfl)
           have n1 := Kep.all g1 (a := ⟨w.heap.size, 1, none⟩) (v := .int .i32 ny) (by (repeat (first | rw [World.cell?_drew] | rw [World.cell?_alloc_past _ _ _ (by first | (simp; done) | (simp; omega))])); rw [World.cell?_alloc_at _ _ _ _ (by simp)]; rfl)
           have gg := kep_next (kep_more (Kep.refl _ _) _) g1
           have zn_w1 : w.heap.size < w1.heap.size := World.block_lt_of_cell? _ _ n0)
        | ((with_reducible refine (I1.out _).mono ?_); rintro e w' ⟨rfl, rfl⟩)
        | ((with_reducible refine (I2.out _).mono ?_); rintro e w' ⟨rfl, rfl⟩)
        | ((with_reducible refine (D1.out _).mono ?_); rintro e w2 ⟨rfl, g2⟩
           replace n0 := Kep.all g2 (a := ⟨w.heap.size, 0, none⟩) (v := .int .i32 nx) n0
           replace n1 := Kep.all g2 (a := ⟨w.heap.size, 1, none⟩) (v := .int .i32 ny) n1
           replace gg := kep_next gg g2
           have zn_w2 : w.heap.size < w2.heap.size := World.block_lt_of_cell? _ _ n0)
        | ((with_reducible refine (D2.out _).mono ?_); rintro e w3 ⟨rfl, g3⟩
           replace n0 := Kep.all g3 (a := ⟨w.heap.size, 0, none⟩) (v := .int .i32 nx) n0
           replace n1 := Kep.all g3 (a := ⟨w.heap.size, 1, none⟩) (v := .int .i32 ny) n1
           replace gg := kep_next gg g3
           have zn_w3 : w.heap.size < w3.heap.size := World.block_lt_of_cell? _ _ n0)
        | ((with_reducible refine (D0.out _).mono ?_); rintro e w4 ⟨rfl, g4⟩
           replace n0 := Kep.all g4 (a := ⟨w.heap.size, 0, none⟩) (v := .int .i32 nx) n0
           replace n1 := Kep.all g4 (a := ⟨w.heap.size, 1, none⟩) (v := .int .i32 ny) n1
           replace gg := kep_next gg g4
           have zn_w4 : w.heap.size < w4.heap.size := World.block_lt_of_cell? _ _ n0))
      go_ret
      exact ⟨rfl, gg⟩
  · by_cases cy : 0 ≤ ny
    · have x1 : decide (0 ≤ nx) = false := decide_eq_false cx
      have x2 : decide (nx < 0) = true := decide_eq_true (by omega)
      have x3 : decide (0 < p) = false := decide_eq_false (by have := hp2 (by omega); omega)
      have x4 : decide (p < r) = false := decide_eq_false (by have := hp2 (by omega); omega)
      have y1 : decide (0 ≤ ny) = true := decide_eq_true cy
      have y2 : decide (ny < 0) = false := decide_eq_false (by omega)
      have y3 : decide (0 ≤ q) = true := decide_eq_true (by have := hq cy; omega)
      have y4 : decide (q ≤ s) = true := decide_eq_true (by have := hq cy; omega)
      clear cx cy hp hp2 hq hq2
      go_enter Try.func5, Try.ntmps5
      go_wp2_with (first
        | ((with_reducible refine (AW.out _).mono ?_); rintro e w1 ⟨rfl, g1⟩
           have n0 := Kep.all g1 (a := ⟨w.heap.size, 0, none⟩) (v := .int .i32 nx) (by (repeat (first | rw [World.cell?_drew] | rw [World.cell?_alloc_past _ _ _ (by first | (simp; done) | (simp; omega))])); rw [World.cell?_alloc_at _ _ _ _ (by simp)]; rfl)
           have n1 := Kep.all g1 (a := ⟨w.heap.size, 1, none⟩) (v := .int .i32 ny) (by (repeat (first | rw [World.cell?_drew] | rw [World.cell?_alloc_past _ _ _ (by first | (simp; done) | (simp; omega))])); rw [World.cell?_alloc_at _ _ _ _ (by simp)]; rfl)
           have gg := kep_next (kep_more (Kep.refl _ _) _) g1
           have zn_w1 : w.heap.size < w1.heap.size := World.block_lt_of_cell? _ _ n0)
        | ((with_reducible refine (I1.out _).mono ?_); rintro e w' ⟨rfl, rfl⟩)
        | ((with_reducible refine (I2.out _).mono ?_); rintro e w' ⟨rfl, rfl⟩)
        | ((with_reducible refine (D1.out _).mono ?_); rintro e w2 ⟨rfl, g2⟩
           replace n0 := Kep.all g2 (a := ⟨w.heap.size, 0, none⟩) (v := .int .i32 nx) n0
           replace n1 := Kep.all g2 (a := ⟨w.heap.size, 1, none⟩) (v := .int .i32 ny) n1
           replace gg := kep_next gg g2
           have zn_w2 : w.heap.size < w2.heap.size := World.block_lt_of_cell? _ _ n0)
        | ((with_reducible refine (D2.out _).mono ?_); rintro e w3 ⟨rfl, g3⟩
           replace n0 := Kep.all g3 (a := ⟨w.heap.size, 0, none⟩) (v := .int .i32 nx) n0
           replace n1 := Kep.all g3 (a := ⟨w.heap.size, 1, none⟩) (v := .int .i32 ny) n1
           replace gg := kep_next gg g3
           have zn_w3 : w.heap.size < w3.heap.size := World.block_lt_of_cell? _ _ n0)
        | ((with_reducible refine (D0.out _).mono ?_); rintro e w4 ⟨rfl, g4⟩
           replace n0 := Kep.all g4 (a := ⟨w.heap.size, 0, none⟩) (v := .int .i32 nx) n0
           replace n1 := Kep.all g4 (a := ⟨w.heap.size, 1, none⟩) (v := .int .i32 ny) n1
           replace gg := kep_next gg g4
           have zn_w4 : w.heap.size < w4.heap.size := World.block_lt_of_cell? _ _ n0))
      go_ret
      exact ⟨rfl, gg⟩
    · have x1 : decide (0 ≤ nx) = false := decide_eq_false cx
      have x2 : decide (nx < 0) = true := decide_eq_true (by omega)
      have x3 : decide (0 < p) = false := decide_eq_false (by have := hp2 (by omega); omega)
      have x4 : decide (p < r) = false := decide_eq_false (by have := hp2 (by omega); omega)
      have y1 : decide (0 ≤ ny) = false := decide_eq_false cy
      have y2 : decide (ny < 0) = true := decide_eq_true (by omega)
      have y3 : decide (q ≤ 0) = true := decide_eq_true (by have := hq2 (by omega); omega)
      have y4 : decide (s ≤ q) = true := decide_eq_true (by have := hq2 (by omega); omega)
      clear cx cy hp hp2 hq hq2
      go_enter Try.func5, Try.ntmps5
      go_wp2_with (first
        | ((with_reducible refine (AW.out _).mono ?_); rintro e w1 ⟨rfl, g1⟩
           have n0 := Kep.all g1 (a := ⟨w.heap.size, 0, none⟩) (v := .int .i32 nx) (by (repeat (first | rw [World.cell?_drew] | rw [World.cell?_alloc_past _ _ _ (by first | (simp; done) | (simp; omega))])); rw [World.cell?_alloc_at _ _ _ _ (by simp)]; rfl)
           have n1 := Kep.all g1 (a := ⟨w.heap.size, 1, none⟩) (v := .int .i32 ny) (by (repeat (first | rw [World.cell?_drew] | rw [World.cell?_alloc_past _ _ _ (by first | (simp; done) | (simp; omega))])); rw [World.cell?_alloc_at _ _ _ _ (by simp)]; rfl)
           have gg := kep_next (kep_more (Kep.refl _ _) _) g1
           have zn_w1 : w.heap.size < w1.heap.size := World.block_lt_of_cell? _ _ n0)
        | ((with_reducible refine (I1.out _).mono ?_); rintro e w' ⟨rfl, rfl⟩)
        | ((with_reducible refine (I2.out _).mono ?_); rintro e w' ⟨rfl, rfl⟩)
        | ((with_reducible refine (D1.out _).mono ?_); rintro e w2 ⟨rfl, g2⟩
           replace n0 := Kep.all g2 (a := ⟨w.heap.size, 0, none⟩) (v := .int .i32 nx) n0
           replace n1 := Kep.all g2 (a := ⟨w.heap.size, 1, none⟩) (v := .int .i32 ny) n1
           replace gg := kep_next gg g2
           have zn_w2 : w.heap.size < w2.heap.size := World.block_lt_of_cell? _ _ n0)
        | ((with_reducible refine (D2.out _).mono ?_); rintro e w3 ⟨rfl, g3⟩
           replace n0 := Kep.all g3 (a := ⟨w.heap.size, 0, none⟩) (v := .int .i32 nx) n0
           replace n1 := Kep.all g3 (a := ⟨w.heap.size, 1, none⟩) (v := .int .i32 ny) n1
           replace gg := kep_next gg g3
           have zn_w3 : w.heap.size < w3.heap.size := World.block_lt_of_cell? _ _ n0)
        | ((with_reducible refine (D0.out _).mono ?_); rintro e w4 ⟨rfl, g4⟩
           replace n0 := Kep.all g4 (a := ⟨w.heap.size, 0, none⟩) (v := .int .i32 nx) n0
           replace n1 := Kep.all g4 (a := ⟨w.heap.size, 1, none⟩) (v := .int .i32 ny) n1
           replace gg := kep_next gg g4
           have zn_w4 : w.heap.size < w4.heap.size := World.block_lt_of_cell? _ _ n0))
      go_ret
      exact ⟨rfl, gg⟩
theorem chI_scale {j m i n : Int} (hj : 0 ≤ j) (hm : j ≤ m) (hi : 0 ≤ i) : (0 ≤ n → 0 ≤ chI j i n ∧ chI j i n ≤ chI m i n) ∧ (n < 0 → chI j i n ≤ 0 ∧ chI m i n ≤ chI j i n) := by
  unfold chI
  have k1 : 0 ≤ j * i / 65536 := Int.ediv_nonneg (Int.mul_nonneg hj hi) (by decide)
  have k2 : j * i / 65536 ≤ m * i / 65536 := Int.ediv_le_ediv (by decide) (Int.mul_le_mul_of_nonneg_right hm hi)
  generalize j * i / 65536 = a at *
  generalize m * i / 65536 = b at *
  refine ⟨fun hn => ?_, fun hn => ?_⟩
  · have p1 := Int.mul_nonneg k1 hn
    have p2 := Int.mul_le_mul_of_nonneg_right k2 hn
    omega
  · have p1 := Int.mul_le_mul_of_nonpos_right k2 (show n ≤ 0 by omega)
    have p2 := Int.mul_nonpos_of_nonneg_of_nonpos k1 (show n ≤ 0 by omega)
    omega
theorem chI_none (i n : Int) : chI 0 i n = 0 := by
  unfold chI
  simp
/-- The law ImpulseScales. -/
theorem icl_law (O : IOps) (AW : IAwake) (nx ny j m i : Int) (w : World) : Calls Try.prog 5 #[.agg #[.int .i32 nx, .int .i32 ny], .int .i64 j, .int .i64 m, .int .i32 i] w fun e w' => e = .returned (.bool true) ∧ Kep w.heap.size w w' := by
  have I1 := Lib.hid (rin (n := nx) (l := 65536) (c := decide (Nr nx)) (by decide) (by decide) rfl)
  have I2 := Lib.hid (rin (n := ny) (l := 65536) (c := decide (Nr ny)) (by decide) (by decide) rfl)
  by_cases hb : decide (Nr nx) = true ∧ decide (Nr ny) = true ∧ 0 ≤ j ∧ j ≤ m ∧ m ≤ 8796093022208 ∧ 0 ≤ i ∧ i ≤ 1048576
  · obtain ⟨b1, b2, b3, b4, b5, b6, b7⟩ := hb
    have h1 := of_decide_eq_true b1
    have h2 := of_decide_eq_true b2
    rw [b1] at I1
    rw [b2] at I2
    have D0 := O.chg (j := 0) (i := i) ⟨by omega, by omega⟩ ⟨b6, b7⟩ h1 h2
    rw [chI_none, chI_none] at D0
    have sx := chI_scale (n := nx) b3 b4 b6
    have sy := chI_scale (n := ny) b3 b4 b6
    exact icl_main (Lib.hid AW) nx ny j m i _ _ _ _ I1 I2 (decide_eq_false (by omega)) (decide_eq_false (by omega)) (decide_eq_false (by omega)) (decide_eq_false (by omega)) (decide_eq_false (by omega)) (Lib.hid (O.chg ⟨by omega, by omega⟩ ⟨b6, b7⟩ h1 h2)) (Lib.hid (O.chg ⟨by omega, by omega⟩ ⟨b6, b7⟩ h1 h2)) (Lib.hid D0) sx.1 sx.2 sy.1 sy.2 w
  · exact icl_bad (Lib.hid AW) nx ny j m i _ _ I1 I2 hb w
end Go.Proofs.Ytnmlknjjbonenaa
