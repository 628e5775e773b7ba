/-
  Package body: the contract of Check, and the fixed examples of its laws.
-/
import Derived.Test.YtjbhgjaklmpkjaaBodyCheck
import Derived.Test.YtjbhgjaklmpkjaaBodyOps
import Derived.Test.YtjbhgjaklmpkjaaBodyRef
namespace Go.Proofs.Ytjbhgjaklmpkjaa
open Go.RowKit Go.Lib

abbrev Chk (k r ax ay m o px py vx vy c : Int) : Prop := ∀ w, Calls Try.prog 9 #[.agg #[.int .u32 k, .int .i32 r, .int .i32 ax, .int .i32 ay, .int .i32 m, .int .i32 o, .int .i32 px, .int .i32 py, .int .i32 vx, .int .i32 vy]] w fun e w' => e = .returned (.int .i64 c) ∧ Grown w w'
abbrev BodyAwake : Prop := ∀ w, Calls Try.prog 7 #[] w fun e w' => e = .returned (.bool true) ∧ Grown w w'

theorem fst_if {P1 P2 P3 P4 P5 P6 P7 P8 P9 P10 P11 P12 P13 P14 P15 P16 P17 P18 : Prop} [Decidable P1] [Decidable P2] [Decidable P3] [Decidable P4] [Decidable P5] [Decidable P6] [Decidable P7] [Decidable P8] [Decidable P9] [Decidable P10] [Decidable P11] [Decidable P12] [Decidable P13] [Decidable P14] [Decidable P15] [Decidable P16] [Decidable P17] [Decidable P18] :
    fst6 (decide P1 && decide P2) ((decide P3 && decide P4) && (decide P5 && decide P6)) (decide P7 && decide P8) (decide P9 && decide P10) ((decide P11 && decide P12) && (decide P13 && decide P14)) ((decide P15 && decide P16) && (decide P17 && decide P18)) =
    if P1 ∧ P2 then if (P3 ∧ P4) ∧ (P5 ∧ P6) then if P7 ∧ P8 then if P9 ∧ P10 then if (P11 ∧ P12) ∧ (P13 ∧ P14) then if (P15 ∧ P16) ∧ (P17 ∧ P18) then 0 else 9 else 8 else 7 else 6 else 5 else 4 := by
  unfold fst6
  by_cases h1 : P1 ∧ P2
  · rw [if_pos h1, decide_eq_true h1.1, decide_eq_true h1.2]
    by_cases h2 : (P3 ∧ P4) ∧ (P5 ∧ P6)
    · rw [if_pos h2, decide_eq_true h2.1.1, decide_eq_true h2.1.2, decide_eq_true h2.2.1, decide_eq_true h2.2.2]
      by_cases h3 : P7 ∧ P8
      · rw [if_pos h3, decide_eq_true h3.1, decide_eq_true h3.2]
        by_cases h4 : P9 ∧ P10
        · rw [if_pos h4, decide_eq_true h4.1, decide_eq_true h4.2]
          by_cases h5 : (P11 ∧ P12) ∧ (P13 ∧ P14)
          · rw [if_pos h5, decide_eq_true h5.1.1, decide_eq_true h5.1.2, decide_eq_true h5.2.1, decide_eq_true h5.2.2]
            by_cases h6 : (P15 ∧ P16) ∧ (P17 ∧ P18)
            · rw [if_pos h6, decide_eq_true h6.1.1, decide_eq_true h6.1.2, decide_eq_true h6.2.1, decide_eq_true h6.2.2]; rfl
            · rw [if_neg h6, ← Bool.decide_and, ← Bool.decide_and, ← Bool.decide_and, decide_eq_false h6]; rfl
          · rw [if_neg h5, ← Bool.decide_and, ← Bool.decide_and (p := P13), ← Bool.decide_and (p := P11 ∧ P12), decide_eq_false h5]; rfl
        · rw [if_neg h4, ← Bool.decide_and, decide_eq_false h4]; rfl
      · rw [if_neg h3, ← Bool.decide_and, decide_eq_false h3]; rfl
    · rw [if_neg h2, ← Bool.decide_and, ← Bool.decide_and (p := P5), ← Bool.decide_and (p := P3 ∧ P4), decide_eq_false h2]; rfl
  · rw [if_neg h1, ← Bool.decide_and, decide_eq_false h1]; rfl

theorem chk_of (k : Int) {r ax ay m o px py vx vy c : Int} (h : chk r ax ay m o px py vx vy = c) : Chk k r ax ay m o px py vx vy c := fun w => by
  have e := check_ex k r ax ay m o px py vx vy _ _ _ _ _ _ rfl rfl rfl rfl rfl rfl w
  rw [fst_if] at e
  rw [← h]
  exact e

theorem ext_in (k r ax ay m o px py vx vy x y : Int) (h1 : -4194304 ≤ ax ∧ ax ≤ 4194304) (h2 : -4194304 ≤ ay ∧ ay ≤ 4194304) (h3 : 4096 ≤ r ∧ r ≤ 4194304) (hx : max ax (-ax) + r = x) (hy : max ay (-ay) + r = y) : Ext k r ax ay m o px py vx vy x y :=
  ext_of k r ax ay m o px py vx vy (max ax (-ax)) (max ay (-ay)) x y (Lib.hid (bab1 (by omega) (by omega) rfl)) (Lib.hid (bab1 (by omega) (by omega) rfl)) (by unfold wrap32; omega) (by unfold wrap32; omega)
theorem end_in (k r ax ay m o px py vx vy x y X Y : Int) (h1 : -4194304 ≤ ax ∧ ax ≤ 4194304) (h2 : -4194304 ≤ ay ∧ ay ≤ 4194304) (hp : -2143289344 ≤ px ∧ px ≤ 2143289343) (hq : -2143289344 ≤ py ∧ py ≤ 2143289343)
    (hx : px - ax = x) (hy : py - ay = y) (hX : px + ax = X) (hY : py + ay = Y) : End k r ax ay m o px py vx vy x y X Y :=
  end_of k r ax ay m o px py vx vy (-ax) (-ay) x y X Y (by unfold wrap32; omega) (by unfold wrap32; omega) (Lib.hid (mov _ _ _ _ _ _ _ _ _ _ _ _ _ _ (by unfold wrap32; omega) (by unfold wrap32; omega))) (Lib.hid (mov _ _ _ _ _ _ _ _ _ _ _ _ _ _ (by unfold wrap32; omega) (by unfold wrap32; omega)))

theorem alloc_two {W : World} {a : Addr} {v : Value} {o o' : Obj} (h : W.cell? a = some v) : ((W.alloc o).alloc o').cell? a = some v := by
  have h1 : (W.alloc o).cell? a = some v := by rw [World.cell?_alloc_some _ _ _ (by rw [h]; rfl)]; exact h
  rw [World.cell?_alloc_some _ _ _ (by rw [h1]; rfl)]; exact h1

set_option maxRecDepth 100000 in
set_option maxHeartbeats 4000000 in
theorem body_awake : BodyAwake := fun w => by
  have C1 := Lib.hid (end_in 0 65536 (-3) 4 1 0 10 20 0 0 13 16 7 24 (by decide) (by decide) (by decide) (by decide) (by decide) (by decide) (by decide) (by decide))
  have C2 := Lib.hid (ext_in 0 65536 (-3) 4 1 0 10 20 0 0 65539 65540 (by decide) (by decide) (by decide) (by decide) (by decide))
  have C3 := Lib.hid (chk_of 0 (show chk 65536 0 0 0 0 0 0 0 0 = 0 by decide))
  have C4 := Lib.hid (chk_of 0 (show chk 0 0 0 (-1) 0 0 0 0 0 = 4 by decide))
  have C5 := Lib.hid (cir 0 65536 0 0 0 0 0 0 0 0 true (by decide))
  have C6 := Lib.hid (sta 0 65536 0 0 0 0 0 0 0 0 true (by decide))
  have C7 := Lib.hid (cir 0 65536 (-3) 4 1 0 10 20 0 0 false (by decide))
  have C8 := Lib.hid (sta 0 65536 (-3) 4 1 0 10 20 0 0 false (by decide))
  have C9 := Lib.hid (mov 0 65536 (-3) 4 1 0 10 20 0 0 1 (-1) 11 19 (by unfold wrap32; omega) (by unfold wrap32; omega))
  have f9 : ∀ w, (Instr.field 26 (.agg #[.int .u32 0, .int .i32 65536, .int .i32 (-3), .int .i32 4, .int .i32 1, .int .i32 0, .int .i32 11, .int .i32 19, .int .i32 0, .int .i32 0]) 5).run Try.prog w = .ok (.agg #[.int .i32 11, .int .i32 19]) w := fun _ => rfl
  go_enter Try.func7, Try.ntmps7
  go_wp2_with (first
    | ((with_reducible refine (C1.out _).mono ?_); rintro e w1 ⟨rfl, g1⟩
       have b0 := kept_cell g1 (b := w.heap.size) (o := 0) (v := .int .u32 0) (by (repeat (first | rw [World.cell?_drew] | rw [World.cell?_alloc_past _ _ _ (by first | (simp; done) | (simp; omega))])); rw [World.cell?_alloc_at _ _ _ _ (by simp)]; rfl)
       have b1 := kept_cell g1 (b := w.heap.size) (o := 1) (v := .int .i32 65536) (by (repeat (first | rw [World.cell?_drew] | rw [World.cell?_alloc_past _ _ _ (by first | (simp; done) | (simp; omega))])); rw [World.cell?_alloc_at _ _ _ _ (by simp)]; rfl)
       have b2 := kept_cell g1 (b := w.heap.size) (o := 2) (v := .int .i32 0) (by (repeat (first | rw [World.cell?_drew] | rw [World.cell?_alloc_past _ _ _ (by first | (simp; done) | (simp; omega))])); rw [World.cell?_alloc_at _ _ _ _ (by simp)]; rfl)
       have b3 := kept_cell g1 (b := w.heap.size) (o := 3) (v := .int .i32 0) (by (repeat (first | rw [World.cell?_drew] | rw [World.cell?_alloc_past _ _ _ (by first | (simp; done) | (simp; omega))])); rw [World.cell?_alloc_at _ _ _ _ (by simp)]; rfl)
       have b4 := kept_cell g1 (b := w.heap.size) (o := 4) (v := .int .i32 0) (by (repeat (first | rw [World.cell?_drew] | rw [World.cell?_alloc_past _ _ _ (by first | (simp; done) | (simp; omega))])); rw [World.cell?_alloc_at _ _ _ _ (by simp)]; rfl)
       have b5 := kept_cell g1 (b := w.heap.size) (o := 5) (v := .int .i32 0) (by (repeat (first | rw [World.cell?_drew] | rw [World.cell?_alloc_past _ _ _ (by first | (simp; done) | (simp; omega))])); rw [World.cell?_alloc_at _ _ _ _ (by simp)]; rfl)
       have b6 := kept_cell g1 (b := w.heap.size) (o := 6) (v := .int .i32 0) (by (repeat (first | rw [World.cell?_drew] | rw [World.cell?_alloc_past _ _ _ (by first | (simp; done) | (simp; omega))])); rw [World.cell?_alloc_at _ _ _ _ (by simp)]; rfl)
       have b7 := kept_cell g1 (b := w.heap.size) (o := 7) (v := .int .i32 0) (by (repeat (first | rw [World.cell?_drew] | rw [World.cell?_alloc_past _ _ _ (by first | (simp; done) | (simp; omega))])); rw [World.cell?_alloc_at _ _ _ _ (by simp)]; rfl)
       have b8 := kept_cell g1 (b := w.heap.size) (o := 8) (v := .int .i32 0) (by (repeat (first | rw [World.cell?_drew] | rw [World.cell?_alloc_past _ _ _ (by first | (simp; done) | (simp; omega))])); rw [World.cell?_alloc_at _ _ _ _ (by simp)]; rfl)
       have b9 := kept_cell g1 (b := w.heap.size) (o := 9) (v := .int .i32 0) (by (repeat (first | rw [World.cell?_drew] | rw [World.cell?_alloc_past _ _ _ (by first | (simp; done) | (simp; omega))])); rw [World.cell?_alloc_at _ _ _ _ (by simp)]; rfl)
       have c0 := kept_cell g1 (b := w.heap.size + 1) (o := 0) (v := .int .u32 0) (by (repeat (first | rw [World.cell?_drew] | rw [World.cell?_alloc_past _ _ _ (by first | (simp; done) | (simp; omega))])); rw [World.cell?_alloc_at _ _ _ _ (by simp)]; rfl)
       have c1 := kept_cell g1 (b := w.heap.size + 1) (o := 1) (v := .int .i32 65536) (by (repeat (first | rw [World.cell?_drew] | rw [World.cell?_alloc_past _ _ _ (by first | (simp; done) | (simp; omega))])); rw [World.cell?_alloc_at _ _ _ _ (by simp)]; rfl)
       have c2 := kept_cell g1 (b := w.heap.size + 1) (o := 2) (v := .int .i32 (-3)) (by (repeat (first | rw [World.cell?_drew] | rw [World.cell?_alloc_past _ _ _ (by first | (simp; done) | (simp; omega))])); rw [World.cell?_alloc_at _ _ _ _ (by simp)]; rfl)
       have c3 := kept_cell g1 (b := w.heap.size + 1) (o := 3) (v := .int .i32 4) (by (repeat (first | rw [World.cell?_drew] | rw [World.cell?_alloc_past _ _ _ (by first | (simp; done) | (simp; omega))])); rw [World.cell?_alloc_at _ _ _ _ (by simp)]; rfl)
       have c4 := kept_cell g1 (b := w.heap.size + 1) (o := 4) (v := .int .i32 1) (by (repeat (first | rw [World.cell?_drew] | rw [World.cell?_alloc_past _ _ _ (by first | (simp; done) | (simp; omega))])); rw [World.cell?_alloc_at _ _ _ _ (by simp)]; rfl)
       have c5 := kept_cell g1 (b := w.heap.size + 1) (o := 5) (v := .int .i32 0) (by (repeat (first | rw [World.cell?_drew] | rw [World.cell?_alloc_past _ _ _ (by first | (simp; done) | (simp; omega))])); rw [World.cell?_alloc_at _ _ _ _ (by simp)]; rfl)
       have c6 := kept_cell g1 (b := w.heap.size + 1) (o := 6) (v := .int .i32 10) (by (repeat (first | rw [World.cell?_drew] | rw [World.cell?_alloc_past _ _ _ (by first | (simp; done) | (simp; omega))])); rw [World.cell?_alloc_at _ _ _ _ (by simp)]; rfl)
       have c7 := kept_cell g1 (b := w.heap.size + 1) (o := 7) (v := .int .i32 20) (by (repeat (first | rw [World.cell?_drew] | rw [World.cell?_alloc_past _ _ _ (by first | (simp; done) | (simp; omega))])); rw [World.cell?_alloc_at _ _ _ _ (by simp)]; rfl)
       have c8 := kept_cell g1 (b := w.heap.size + 1) (o := 8) (v := .int .i32 0) (by (repeat (first | rw [World.cell?_drew] | rw [World.cell?_alloc_past _ _ _ (by first | (simp; done) | (simp; omega))])); rw [World.cell?_alloc_at _ _ _ _ (by simp)]; rfl)
       have c9 := kept_cell g1 (b := w.heap.size + 1) (o := 9) (v := .int .i32 0) (by (repeat (first | rw [World.cell?_drew] | rw [World.cell?_alloc_past _ _ _ (by first | (simp; done) | (simp; omega))])); rw [World.cell?_alloc_at _ _ _ _ (by simp)]; rfl)
       have gg := grown_trans (((Grown.refl _).alloc _ _).alloc _ _) g1
       have z0 : w.heap.size < w1.heap.size := World.block_lt_of_cell? _ _ b0
       have z1 : w.heap.size + 1 < w1.heap.size := World.block_lt_of_cell? _ _ c0)
    | ((with_reducible refine (C2.out _).mono ?_); rintro e w2 ⟨rfl, g2⟩
       replace b0 := kept_cell g2 (b := w.heap.size) (o := 0) (v := .int .u32 0) (alloc_two b0)
       replace b1 := kept_cell g2 (b := w.heap.size) (o := 1) (v := .int .i32 65536) (alloc_two b1)
       replace b2 := kept_cell g2 (b := w.heap.size) (o := 2) (v := .int .i32 0) (alloc_two b2)
       replace b3 := kept_cell g2 (b := w.heap.size) (o := 3) (v := .int .i32 0) (alloc_two b3)
       replace b4 := kept_cell g2 (b := w.heap.size) (o := 4) (v := .int .i32 0) (alloc_two b4)
       replace b5 := kept_cell g2 (b := w.heap.size) (o := 5) (v := .int .i32 0) (alloc_two b5)
       replace b6 := kept_cell g2 (b := w.heap.size) (o := 6) (v := .int .i32 0) (alloc_two b6)
       replace b7 := kept_cell g2 (b := w.heap.size) (o := 7) (v := .int .i32 0) (alloc_two b7)
       replace b8 := kept_cell g2 (b := w.heap.size) (o := 8) (v := .int .i32 0) (alloc_two b8)
       replace b9 := kept_cell g2 (b := w.heap.size) (o := 9) (v := .int .i32 0) (alloc_two b9)
       replace c0 := kept_cell g2 (b := w.heap.size + 1) (o := 0) (v := .int .u32 0) (alloc_two c0)
       replace c1 := kept_cell g2 (b := w.heap.size + 1) (o := 1) (v := .int .i32 65536) (alloc_two c1)
       replace c2 := kept_cell g2 (b := w.heap.size + 1) (o := 2) (v := .int .i32 (-3)) (alloc_two c2)
       replace c3 := kept_cell g2 (b := w.heap.size + 1) (o := 3) (v := .int .i32 4) (alloc_two c3)
       replace c4 := kept_cell g2 (b := w.heap.size + 1) (o := 4) (v := .int .i32 1) (alloc_two c4)
       replace c5 := kept_cell g2 (b := w.heap.size + 1) (o := 5) (v := .int .i32 0) (alloc_two c5)
       replace c6 := kept_cell g2 (b := w.heap.size + 1) (o := 6) (v := .int .i32 10) (alloc_two c6)
       replace c7 := kept_cell g2 (b := w.heap.size + 1) (o := 7) (v := .int .i32 20) (alloc_two c7)
       replace c8 := kept_cell g2 (b := w.heap.size + 1) (o := 8) (v := .int .i32 0) (alloc_two c8)
       replace c9 := kept_cell g2 (b := w.heap.size + 1) (o := 9) (v := .int .i32 0) (alloc_two c9)
       have p0 := kept_cell g2 (b := w1.heap.size) (o := 0) (v := .int .i32 13) (by (repeat (first | rw [World.cell?_drew] | rw [World.cell?_alloc_past _ _ _ (by first | (simp; done) | (simp; omega))])); rw [World.cell?_alloc_at _ _ _ _ (by simp)]; rfl)
       have p1 := kept_cell g2 (b := w1.heap.size) (o := 1) (v := .int .i32 16) (by (repeat (first | rw [World.cell?_drew] | rw [World.cell?_alloc_past _ _ _ (by first | (simp; done) | (simp; omega))])); rw [World.cell?_alloc_at _ _ _ _ (by simp)]; rfl)
       have q0 := kept_cell g2 (b := w1.heap.size + 1) (o := 0) (v := .int .i32 7) (by (repeat (first | rw [World.cell?_drew] | rw [World.cell?_alloc_past _ _ _ (by first | (simp; done) | (simp; omega))])); rw [World.cell?_alloc_at _ _ _ _ (by simp)]; rfl)
       have q1 := kept_cell g2 (b := w1.heap.size + 1) (o := 1) (v := .int .i32 24) (by (repeat (first | rw [World.cell?_drew] | rw [World.cell?_alloc_past _ _ _ (by first | (simp; done) | (simp; omega))])); rw [World.cell?_alloc_at _ _ _ _ (by simp)]; rfl)
       replace gg := grown_trans ((gg.alloc _ _).alloc _ _) g2)
    | ((with_reducible refine (C3.out _).mono ?_); rintro e w' ⟨rfl, g⟩
       replace b0 := kept_cell g b0
       replace b1 := kept_cell g b1
       replace b2 := kept_cell g b2
       replace b3 := kept_cell g b3
       replace b4 := kept_cell g b4
       replace b5 := kept_cell g b5
       replace b6 := kept_cell g b6
       replace b7 := kept_cell g b7
       replace b8 := kept_cell g b8
       replace b9 := kept_cell g b9
       replace c0 := kept_cell g c0
       replace c1 := kept_cell g c1
       replace c2 := kept_cell g c2
       replace c3 := kept_cell g c3
       replace c4 := kept_cell g c4
       replace c5 := kept_cell g c5
       replace c6 := kept_cell g c6
       replace c7 := kept_cell g c7
       replace c8 := kept_cell g c8
       replace c9 := kept_cell g c9
       replace p0 := kept_cell g p0
       replace p1 := kept_cell g p1
       replace q0 := kept_cell g q0
       replace q1 := kept_cell g q1
       replace gg := grown_trans gg g)
    | ((with_reducible refine (C4.out _).mono ?_); rintro e w' ⟨rfl, g⟩
       replace b0 := kept_cell g b0
       replace b1 := kept_cell g b1
       replace b2 := kept_cell g b2
       replace b3 := kept_cell g b3
       replace b4 := kept_cell g b4
       replace b5 := kept_cell g b5
       replace b6 := kept_cell g b6
       replace b7 := kept_cell g b7
       replace b8 := kept_cell g b8
       replace b9 := kept_cell g b9
       replace c0 := kept_cell g c0
       replace c1 := kept_cell g c1
       replace c2 := kept_cell g c2
       replace c3 := kept_cell g c3
       replace c4 := kept_cell g c4
       replace c5 := kept_cell g c5
       replace c6 := kept_cell g c6
       replace c7 := kept_cell g c7
       replace c8 := kept_cell g c8
       replace c9 := kept_cell g c9
       replace p0 := kept_cell g p0
       replace p1 := kept_cell g p1
       replace q0 := kept_cell g q0
       replace q1 := kept_cell g q1
       replace gg := grown_trans gg g)
    | ((with_reducible refine (C5.out _).mono ?_); rintro e w' ⟨rfl, g⟩
       replace b0 := kept_cell g b0
       replace b1 := kept_cell g b1
       replace b2 := kept_cell g b2
       replace b3 := kept_cell g b3
       replace b4 := kept_cell g b4
       replace b5 := kept_cell g b5
       replace b6 := kept_cell g b6
       replace b7 := kept_cell g b7
       replace b8 := kept_cell g b8
       replace b9 := kept_cell g b9
       replace c0 := kept_cell g c0
       replace c1 := kept_cell g c1
       replace c2 := kept_cell g c2
       replace c3 := kept_cell g c3
       replace c4 := kept_cell g c4
       replace c5 := kept_cell g c5
       replace c6 := kept_cell g c6
       replace c7 := kept_cell g c7
       replace c8 := kept_cell g c8
       replace c9 := kept_cell g c9
       replace p0 := kept_cell g p0
       replace p1 := kept_cell g p1
       replace q0 := kept_cell g q0
       replace q1 := kept_cell g q1
       replace gg := grown_trans gg g)
    | ((with_reducible refine (C6.out _).mono ?_); rintro e w' ⟨rfl, g⟩
       replace b0 := kept_cell g b0
       replace b1 := kept_cell g b1
       replace b2 := kept_cell g b2
       replace b3 := kept_cell g b3
       replace b4 := kept_cell g b4
       replace b5 := kept_cell g b5
       replace b6 := kept_cell g b6
       replace b7 := kept_cell g b7
       replace b8 := kept_cell g b8
       replace b9 := kept_cell g b9
       replace c0 := kept_cell g c0
       replace c1 := kept_cell g c1
       replace c2 := kept_cell g c2
       replace c3 := kept_cell g c3
       replace c4 := kept_cell g c4
       replace c5 := kept_cell g c5
       replace c6 := kept_cell g c6
       replace c7 := kept_cell g c7
       replace c8 := kept_cell g c8
       replace c9 := kept_cell g c9
       replace p0 := kept_cell g p0
       replace p1 := kept_cell g p1
       replace q0 := kept_cell g q0
       replace q1 := kept_cell g q1
       replace gg := grown_trans gg g)
    | ((with_reducible refine (C7.out _).mono ?_); rintro e w' ⟨rfl, g⟩
       replace b0 := kept_cell g b0
       replace b1 := kept_cell g b1
       replace b2 := kept_cell g b2
       replace b3 := kept_cell g b3
       replace b4 := kept_cell g b4
       replace b5 := kept_cell g b5
       replace b6 := kept_cell g b6
       replace b7 := kept_cell g b7
       replace b8 := kept_cell g b8
       replace b9 := kept_cell g b9
       replace c0 := kept_cell g c0
       replace c1 := kept_cell g c1
       replace c2 := kept_cell g c2
       replace c3 := kept_cell g c3
       replace c4 := kept_cell g c4
       replace c5 := kept_cell g c5
       replace c6 := kept_cell g c6
       replace c7 := kept_cell g c7
       replace c8 := kept_cell g c8
       replace c9 := kept_cell g c9
       replace p0 := kept_cell g p0
       replace p1 := kept_cell g p1
       replace q0 := kept_cell g q0
       replace q1 := kept_cell g q1
       replace gg := grown_trans gg g)
    | ((with_reducible refine (C8.out _).mono ?_); rintro e w' ⟨rfl, g⟩
       replace b0 := kept_cell g b0
       replace b1 := kept_cell g b1
       replace b2 := kept_cell g b2
       replace b3 := kept_cell g b3
       replace b4 := kept_cell g b4
       replace b5 := kept_cell g b5
       replace b6 := kept_cell g b6
       replace b7 := kept_cell g b7
       replace b8 := kept_cell g b8
       replace b9 := kept_cell g b9
       replace c0 := kept_cell g c0
       replace c1 := kept_cell g c1
       replace c2 := kept_cell g c2
       replace c3 := kept_cell g c3
       replace c4 := kept_cell g c4
       replace c5 := kept_cell g c5
       replace c6 := kept_cell g c6
       replace c7 := kept_cell g c7
       replace c8 := kept_cell g c8
       replace c9 := kept_cell g c9
       replace p0 := kept_cell g p0
       replace p1 := kept_cell g p1
       replace q0 := kept_cell g q0
       replace q1 := kept_cell g q1
       replace gg := grown_trans gg g)
    | ((with_reducible refine (C9.out _).mono ?_); rintro e w' ⟨rfl, g⟩
       replace b0 := kept_cell g b0
       replace b1 := kept_cell g b1
       replace b2 := kept_cell g b2
       replace b3 := kept_cell g b3
       replace b4 := kept_cell g b4
       replace b5 := kept_cell g b5
       replace b6 := kept_cell g b6
       replace b7 := kept_cell g b7
       replace b8 := kept_cell g b8
       replace b9 := kept_cell g b9
       replace c0 := kept_cell g c0
       replace c1 := kept_cell g c1
       replace c2 := kept_cell g c2
       replace c3 := kept_cell g c3
       replace c4 := kept_cell g c4
       replace c5 := kept_cell g c5
       replace c6 := kept_cell g c6
       replace c7 := kept_cell g c7
       replace c8 := kept_cell g c8
       replace c9 := kept_cell g c9
       replace p0 := kept_cell g p0
       replace p1 := kept_cell g p1
       replace q0 := kept_cell g q0
       replace q1 := kept_cell g q1
       replace gg := grown_trans gg g))
  go_ret
  exact ⟨rfl, gg⟩
end Go.Proofs.Ytjbhgjaklmpkjaa
