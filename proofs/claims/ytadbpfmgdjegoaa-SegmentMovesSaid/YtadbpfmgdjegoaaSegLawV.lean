/-
  Package segment: the law SegmentMoves.
-/
import Derived.Test.YtadbpfmgdjegoaaSegCon
import Derived.Deep.DeepCutAuto
import Derived.Deep.QuietTactic
import Derived.BigQuiet
namespace Go.Proofs.Ytadbpfmgdjegoaa
open Go.RowKit Go.Lib

abbrev MVs (px py vx vy x y : Int) : Prop := ∀ w, Calls Try.prog 15 #[.agg #[.int .i32 px, .int .i32 py], .agg #[.int .i32 vx, .int .i32 vy]] w fun e w' => e = .returned (.agg #[.int .i32 x, .int .i32 y]) ∧ Kep w.heap.size w w'
set_option maxRecDepth 100000 in
set_option maxHeartbeats 1000000 in
theorem mvs {px py vx vy x y : Int} (hx : IntKind.i32.wrap (px + vx) = x) (hy : IntKind.i32.wrap (py + vy) = y) : MVs px py vx vy x y := fun w => by
  go_enter Try.func15, Try.ntmps15
  go_wp2_with fail
  exact bodyPost_ret (v := .agg #[.int .i32 x, .int .i32 y]) (by simp [results, Try.results15, go_sem]) rfl ⟨rfl, by repeat first | exact Kep.refl _ _ | refine kep_more ?_ _ | refine kep_set ?_ (by first | (simp; done) | (simp; omega)) _⟩
/-- The block of a vector made: there, and not frozen. -/
structure NB (b : Nat) (w : World) : Prop where
  s0 : (w.cell? ⟨b, 0, none⟩).isSome = true
  s1 : (w.cell? ⟨b, 1, none⟩).isSome = true
  f0 : w.frozen? ⟨b, 0, none⟩ = false
  f1 : w.frozen? ⟨b, 1, none⟩ = false
theorem NB.new (W : World) (t : TypeId) : NB W.heap.size (W.alloc (.cells #[.int .i32 0, .int .i32 0] t)) := by
  refine ⟨?_, ?_, ?_, ?_⟩
  · rw [World.cell?_alloc_at _ _ _ _ (by simp)]; rfl
  · rw [World.cell?_alloc_at _ _ _ _ (by simp)]; rfl
  · rw [World.frozen?_alloc_at _ _ _ _ (by simp)]
  · rw [World.frozen?_alloc_at _ _ _ _ (by simp)]
theorem NB.kep {b : Nat} {w w' : World} (h : NB b w) (g : Kep w.heap.size w w') : NB b w' := ⟨kep_some g h.s0, kep_some g h.s1, kep_froz g h.s0 h.f0, kep_froz g h.s1 h.f1⟩
theorem NB.lt {b : Nat} {w : World} (h : NB b w) : b < w.heap.size := some_lt h.s0
theorem NB.set {b c : Nat} {w : World} (h : NB b w) (k : Nat) (v : Value) : NB b (w.setCell ⟨c, k, none⟩ v) := ⟨sset_some _ _ _ h.s0, sset_some _ _ _ h.s1, sset_froz h.f0, sset_froz h.f1⟩
theorem set2_0 {w : World} {b : Nat} {x y : Value} (h : NB b w) : ((w.setCell ⟨b, 0, none⟩ x).setCell ⟨b, 1, none⟩ y).cell? ⟨b, 0, none⟩ = some x := by
  rw [World.cell?_setCell_other (h := by intro e; injection e with e1 e2; omega)]
  exact World.cell?_setCell_same' _ _ _ h.s0
theorem set2_1 {w : World} {b : Nat} {x y : Value} (h : NB b w) : ((w.setCell ⟨b, 0, none⟩ x).setCell ⟨b, 1, none⟩ y).cell? ⟨b, 1, none⟩ = some y := World.cell?_setCell_same' _ _ _ (sset_some _ _ _ h.s1)
set_option maxRecDepth 100000 in
set_option maxHeartbeats 2000000 in
theorem svl_bad (AW : Hid SAwake) (px py qx qy mx my nx ny vx vy : Int) (hr : sgB px py qx qy mx my nx ny = false) (w : World) : Calls Try.prog 6 #[.agg #[.int .i32 px, .int .i32 py], .agg #[.int .i32 qx, .int .i32 qy], .agg #[.int .i32 mx, .int .i32 my], .agg #[.int .i32 nx, .int .i32 ny], .agg #[.int .i32 vx, .int .i32 vy]] w fun e w' => e = .returned (.bool true) ∧ Kep w.heap.size w w' := by
  have RR := Lib.hid (rr4 px py qx qy mx my nx ny false hr)
  clear hr
  go_enter Try.func6, Try.ntmps6
  go_wp2_with (first
    | ((with_reducible refine (AW.out _).mono ?_); rintro e w1 ⟨rfl, g1⟩
       first
         | (replace gg := kep_next gg g1)
         | (have p0 := Kep.all g1 (a := ⟨w.heap.size, 0, none⟩) (v := .int .i32 px) (by (repeat (first | rw [World.cell?_drew] | rw [World.cell?_alloc_past _ _ _ (by first | (simp; done) | (simp; omega))])); rw [World.cell?_alloc_at _ _ _ _ (by simp)]; rfl)
            have p1 := Kep.all g1 (a := ⟨w.heap.size, 1, none⟩) (v := .int .i32 py) (by (repeat (first | rw [World.cell?_drew] | rw [World.cell?_alloc_past _ _ _ (by first | (simp; done) | (simp; omega))])); rw [World.cell?_alloc_at _ _ _ _ (by simp)]; rfl)
            have q0 := Kep.all g1 (a := ⟨w.heap.size + 1, 0, none⟩) (v := .int .i32 qx) (by (repeat (first | rw [World.cell?_drew] | rw [World.cell?_alloc_past _ _ _ (by first | (simp; done) | (simp; omega))])); rw [World.cell?_alloc_at _ _ _ _ (by simp)]; rfl)
            have q1 := Kep.all g1 (a := ⟨w.heap.size + 1, 1, none⟩) (v := .int .i32 qy) (by (repeat (first | rw [World.cell?_drew] | rw [World.cell?_alloc_past _ _ _ (by first | (simp; done) | (simp; omega))])); rw [World.cell?_alloc_at _ _ _ _ (by simp)]; rfl)
            have m0 := Kep.all g1 (a := ⟨w.heap.size + 1 + 1, 0, none⟩) (v := .int .i32 mx) (by (repeat (first | rw [World.cell?_drew] | rw [World.cell?_alloc_past _ _ _ (by first | (simp; done) | (simp; omega))])); rw [World.cell?_alloc_at _ _ _ _ (by simp)]; rfl)
            have m1 := Kep.all g1 (a := ⟨w.heap.size + 1 + 1, 1, none⟩) (v := .int .i32 my) (by (repeat (first | rw [World.cell?_drew] | rw [World.cell?_alloc_past _ _ _ (by first | (simp; done) | (simp; omega))])); rw [World.cell?_alloc_at _ _ _ _ (by simp)]; rfl)
            have n0 := Kep.all g1 (a := ⟨w.heap.size + 1 + 1 + 1, 0, none⟩) (v := .int .i32 nx) (by (repeat (first | rw [World.cell?_drew] | rw [World.cell?_alloc_past _ _ _ (by first | (simp; done) | (simp; omega))])); rw [World.cell?_alloc_at _ _ _ _ (by simp)]; rfl)
            have n1 := Kep.all g1 (a := ⟨w.heap.size + 1 + 1 + 1, 1, none⟩) (v := .int .i32 ny) (by (repeat (first | rw [World.cell?_drew] | rw [World.cell?_alloc_past _ _ _ (by first | (simp; done) | (simp; omega))])); rw [World.cell?_alloc_at _ _ _ _ (by simp)]; rfl)
            have d0 := Kep.all g1 (a := ⟨w.heap.size + 1 + 1 + 1 + 1, 0, none⟩) (v := .int .i32 vx) (by (repeat (first | rw [World.cell?_drew] | rw [World.cell?_alloc_past _ _ _ (by first | (simp; done) | (simp; omega))])); rw [World.cell?_alloc_at _ _ _ _ (by simp)]; rfl)
            have d1 := Kep.all g1 (a := ⟨w.heap.size + 1 + 1 + 1 + 1, 1, none⟩) (v := .int .i32 vy) (by (repeat (first | rw [World.cell?_drew] | rw [World.cell?_alloc_past _ _ _ (by first | (simp; done) | (simp; omega))])); rw [World.cell?_alloc_at _ _ _ _ (by simp)]; rfl)
            have gg := kep_next (kep_more (kep_more (kep_more (kep_more (kep_more (Kep.refl _ _) _) _) _) _) _) g1
            have zp_w1 : w.heap.size < w1.heap.size := World.block_lt_of_cell? _ _ p0
            have zq_w1 : w.heap.size + 1 < w1.heap.size := World.block_lt_of_cell? _ _ q0
            have zm_w1 : w.heap.size + 1 + 1 < w1.heap.size := World.block_lt_of_cell? _ _ m0
            have zn_w1 : w.heap.size + 1 + 1 + 1 < w1.heap.size := World.block_lt_of_cell? _ _ n0
            have zd_w1 : w.heap.size + 1 + 1 + 1 + 1 < w1.heap.size := World.block_lt_of_cell? _ _ d0))
    | ((with_reducible refine (RR.out _).mono ?_); rintro e w2 ⟨rfl, g2⟩
       replace p0 := Kep.all g2 (a := ⟨w.heap.size, 0, none⟩) (v := .int .i32 px) p0
       replace p1 := Kep.all g2 (a := ⟨w.heap.size, 1, none⟩) (v := .int .i32 py) p1
       replace q0 := Kep.all g2 (a := ⟨w.heap.size + 1, 0, none⟩) (v := .int .i32 qx) q0
       replace q1 := Kep.all g2 (a := ⟨w.heap.size + 1, 1, none⟩) (v := .int .i32 qy) q1
       replace m0 := Kep.all g2 (a := ⟨w.heap.size + 1 + 1, 0, none⟩) (v := .int .i32 mx) m0
       replace m1 := Kep.all g2 (a := ⟨w.heap.size + 1 + 1, 1, none⟩) (v := .int .i32 my) m1
       replace n0 := Kep.all g2 (a := ⟨w.heap.size + 1 + 1 + 1, 0, none⟩) (v := .int .i32 nx) n0
       replace n1 := Kep.all g2 (a := ⟨w.heap.size + 1 + 1 + 1, 1, none⟩) (v := .int .i32 ny) n1
       replace d0 := Kep.all g2 (a := ⟨w.heap.size + 1 + 1 + 1 + 1, 0, none⟩) (v := .int .i32 vx) d0
       replace d1 := Kep.all g2 (a := ⟨w.heap.size + 1 + 1 + 1 + 1, 1, none⟩) (v := .int .i32 vy) d1
       replace gg := kep_next gg g2
       have zp_w2 : w.heap.size < w2.heap.size := World.block_lt_of_cell? _ _ p0
       have zq_w2 : w.heap.size + 1 < w2.heap.size := World.block_lt_of_cell? _ _ q0
       have zm_w2 : w.heap.size + 1 + 1 < w2.heap.size := World.block_lt_of_cell? _ _ m0
       have zn_w2 : w.heap.size + 1 + 1 + 1 < w2.heap.size := World.block_lt_of_cell? _ _ n0
       have zd_w2 : w.heap.size + 1 + 1 + 1 + 1 < w2.heap.size := World.block_lt_of_cell? _ _ d0))
  go_ret
  exact ⟨rfl, gg⟩
set_option maxRecDepth 100000 in
set_option maxHeartbeats 2000000 in
theorem svl_out (AW : Hid SAwake) (px py qx qy mx my nx ny vx vy : Int) (hr : sgB px py qx qy mx my nx ny = true) (hv : ¬ ((-1000000000 ≤ vx ∧ vx ≤ 1000000000) ∧ (-1000000000 ≤ vy ∧ vy ≤ 1000000000))) (w : World) : Calls Try.prog 6 #[.agg #[.int .i32 px, .int .i32 py], .agg #[.int .i32 qx, .int .i32 qy], .agg #[.int .i32 mx, .int .i32 my], .agg #[.int .i32 nx, .int .i32 ny], .agg #[.int .i32 vx, .int .i32 vy]] w fun e w' => e = .returned (.bool true) ∧ Kep w.heap.size w w' := by
  have RR := Lib.hid (rr4 px py qx qy mx my nx ny true hr)
  clear hr
  by_cases k0 : vx < -1000000000
  · have c0 : decide (vx < (-1000000000 : Int)) = true := decide_eq_true k0
    clear hv
    go_enter Try.func6, Try.ntmps6
    go_wp2_with (first
      | ((with_reducible refine (AW.out _).mono ?_); rintro e w1 ⟨rfl, g1⟩
         first
           | (replace gg := kep_next gg g1)
           | (have p0 := Kep.all g1 (a := ⟨w.heap.size, 0, none⟩) (v := .int .i32 px) (by (repeat (first | rw [World.cell?_drew] | rw [World.cell?_alloc_past _ _ _ (by first | (simp; done) | (simp; omega))])); rw [World.cell?_alloc_at _ _ _ _ (by simp)]; rfl)
              have p1 := Kep.all g1 (a := ⟨w.heap.size, 1, none⟩) (v := .int .i32 py) (by (repeat (first | rw [World.cell?_drew] | rw [World.cell?_alloc_past _ _ _ (by first | (simp; done) | (simp; omega))])); rw [World.cell?_alloc_at _ _ _ _ (by simp)]; rfl)
              have q0 := Kep.all g1 (a := ⟨w.heap.size + 1, 0, none⟩) (v := .int .i32 qx) (by (repeat (first | rw [World.cell?_drew] | rw [World.cell?_alloc_past _ _ _ (by first | (simp; done) | (simp; omega))])); rw [World.cell?_alloc_at _ _ _ _ (by simp)]; rfl)
              have q1 := Kep.all g1 (a := ⟨w.heap.size + 1, 1, none⟩) (v := .int .i32 qy) (by (repeat (first | rw [World.cell?_drew] | rw [World.cell?_alloc_past _ _ _ (by first | (simp; done) | (simp; omega))])); rw [World.cell?_alloc_at _ _ _ _ (by simp)]; rfl)
              have m0 := Kep.all g1 (a := ⟨w.heap.size + 1 + 1, 0, none⟩) (v := .int .i32 mx) (by (repeat (first | rw [World.cell?_drew] | rw [World.cell?_alloc_past _ _ _ (by first | (simp; done) | (simp; omega))])); rw [World.cell?_alloc_at _ _ _ _ (by simp)]; rfl)
              have m1 := Kep.all g1 (a := ⟨w.heap.size + 1 + 1, 1, none⟩) (v := .int .i32 my) (by (repeat (first | rw [World.cell?_drew] | rw [World.cell?_alloc_past _ _ _ (by first | (simp; done) | (simp; omega))])); rw [World.cell?_alloc_at _ _ _ _ (by simp)]; rfl)
              have n0 := Kep.all g1 (a := ⟨w.heap.size + 1 + 1 + 1, 0, none⟩) (v := .int .i32 nx) (by (repeat (first | rw [World.cell?_drew] | rw [World.cell?_alloc_past _ _ _ (by first | (simp; done) | (simp; omega))])); rw [World.cell?_alloc_at _ _ _ _ (by simp)]; rfl)
              have n1 := Kep.all g1 (a := ⟨w.heap.size + 1 + 1 + 1, 1, none⟩) (v := .int .i32 ny) (by (repeat (first | rw [World.cell?_drew] | rw [World.cell?_alloc_past _ _ _ (by first | (simp; done) | (simp; omega))])); rw [World.cell?_alloc_at _ _ _ _ (by simp)]; rfl)
              have d0 := Kep.all g1 (a := ⟨w.heap.size + 1 + 1 + 1 + 1, 0, none⟩) (v := .int .i32 vx) (by (repeat (first | rw [World.cell?_drew] | rw [World.cell?_alloc_past _ _ _ (by first | (simp; done) | (simp; omega))])); rw [World.cell?_alloc_at _ _ _ _ (by simp)]; rfl)
              have d1 := Kep.all g1 (a := ⟨w.heap.size + 1 + 1 + 1 + 1, 1, none⟩) (v := .int .i32 vy) (by (repeat (first | rw [World.cell?_drew] | rw [World.cell?_alloc_past _ _ _ (by first | (simp; done) | (simp; omega))])); rw [World.cell?_alloc_at _ _ _ _ (by simp)]; rfl)
              have gg := kep_next (kep_more (kep_more (kep_more (kep_more (kep_more (Kep.refl _ _) _) _) _) _) _) g1
              have zp_w1 : w.heap.size < w1.heap.size := World.block_lt_of_cell? _ _ p0
              have zq_w1 : w.heap.size + 1 < w1.heap.size := World.block_lt_of_cell? _ _ q0
              have zm_w1 : w.heap.size + 1 + 1 < w1.heap.size := World.block_lt_of_cell? _ _ m0
              have zn_w1 : w.heap.size + 1 + 1 + 1 < w1.heap.size := World.block_lt_of_cell? _ _ n0
              have zd_w1 : w.heap.size + 1 + 1 + 1 + 1 < w1.heap.size := World.block_lt_of_cell? _ _ d0))
      | ((with_reducible refine (RR.out _).mono ?_); rintro e w2 ⟨rfl, g2⟩
         replace p0 := Kep.all g2 (a := ⟨w.heap.size, 0, none⟩) (v := .int .i32 px) p0
         replace p1 := Kep.all g2 (a := ⟨w.heap.size, 1, none⟩) (v := .int .i32 py) p1
         replace q0 := Kep.all g2 (a := ⟨w.heap.size + 1, 0, none⟩) (v := .int .i32 qx) q0
         replace q1 := Kep.all g2 (a := ⟨w.heap.size + 1, 1, none⟩) (v := .int .i32 qy) q1
         replace m0 := Kep.all g2 (a := ⟨w.heap.size + 1 + 1, 0, none⟩) (v := .int .i32 mx) m0
         replace m1 := Kep.all g2 (a := ⟨w.heap.size + 1 + 1, 1, none⟩) (v := .int .i32 my) m1
         replace n0 := Kep.all g2 (a := ⟨w.heap.size + 1 + 1 + 1, 0, none⟩) (v := .int .i32 nx) n0
         replace n1 := Kep.all g2 (a := ⟨w.heap.size + 1 + 1 + 1, 1, none⟩) (v := .int .i32 ny) n1
         replace d0 := Kep.all g2 (a := ⟨w.heap.size + 1 + 1 + 1 + 1, 0, none⟩) (v := .int .i32 vx) d0
         replace d1 := Kep.all g2 (a := ⟨w.heap.size + 1 + 1 + 1 + 1, 1, none⟩) (v := .int .i32 vy) d1
         replace gg := kep_next gg g2
         have zp_w2 : w.heap.size < w2.heap.size := World.block_lt_of_cell? _ _ p0
         have zq_w2 : w.heap.size + 1 < w2.heap.size := World.block_lt_of_cell? _ _ q0
         have zm_w2 : w.heap.size + 1 + 1 < w2.heap.size := World.block_lt_of_cell? _ _ m0
         have zn_w2 : w.heap.size + 1 + 1 + 1 < w2.heap.size := World.block_lt_of_cell? _ _ n0
         have zd_w2 : w.heap.size + 1 + 1 + 1 + 1 < w2.heap.size := World.block_lt_of_cell? _ _ d0))
    go_ret
    exact ⟨rfl, gg⟩
  have c0 : decide (vx < (-1000000000 : Int)) = false := decide_eq_false k0
  by_cases k1 : 1000000000 < vx
  · have c1 : decide ((1000000000 : Int) < vx) = true := decide_eq_true k1
    clear hv
    go_enter Try.func6, Try.ntmps6
    go_wp2_with (first
      | ((with_reducible refine (AW.out _).mono ?_); rintro e w1 ⟨rfl, g1⟩
         first
           | (replace gg := kep_next gg g1)
           | (have p0 := Kep.all g1 (a := ⟨w.heap.size, 0, none⟩) (v := .int .i32 px) (by (repeat (first | rw [World.cell?_drew] | rw [World.cell?_alloc_past _ _ _ (by first | (simp; done) | (simp; omega))])); rw [World.cell?_alloc_at _ _ _ _ (by simp)]; rfl)
              have p1 := Kep.all g1 (a := ⟨w.heap.size, 1, none⟩) (v := .int .i32 py) (by (repeat (first | rw [World.cell?_drew] | rw [World.cell?_alloc_past _ _ _ (by first | (simp; done) | (simp; omega))])); rw [World.cell?_alloc_at _ _ _ _ (by simp)]; rfl)
              have q0 := Kep.all g1 (a := ⟨w.heap.size + 1, 0, none⟩) (v := .int .i32 qx) (by (repeat (first | rw [World.cell?_drew] | rw [World.cell?_alloc_past _ _ _ (by first | (simp; done) | (simp; omega))])); rw [World.cell?_alloc_at _ _ _ _ (by simp)]; rfl)
              have q1 := Kep.all g1 (a := ⟨w.heap.size + 1, 1, none⟩) (v := .int .i32 qy) (by (repeat (first | rw [World.cell?_drew] | rw [World.cell?_alloc_past _ _ _ (by first | (simp; done) | (simp; omega))])); rw [World.cell?_alloc_at _ _ _ _ (by simp)]; rfl)
              have m0 := Kep.all g1 (a := ⟨w.heap.size + 1 + 1, 0, none⟩) (v := .int .i32 mx) (by (repeat (first | rw [World.cell?_drew] | rw [World.cell?_alloc_past _ _ _ (by first | (simp; done) | (simp; omega))])); rw [World.cell?_alloc_at _ _ _ _ (by simp)]; rfl)
              have m1 := Kep.all g1 (a := ⟨w.heap.size + 1 + 1, 1, none⟩) (v := .int .i32 my) (by (repeat (first | rw [World.cell?_drew] | rw [World.cell?_alloc_past _ _ _ (by first | (simp; done) | (simp; omega))])); rw [World.cell?_alloc_at _ _ _ _ (by simp)]; rfl)
              have n0 := Kep.all g1 (a := ⟨w.heap.size + 1 + 1 + 1, 0, none⟩) (v := .int .i32 nx) (by (repeat (first | rw [World.cell?_drew] | rw [World.cell?_alloc_past _ _ _ (by first | (simp; done) | (simp; omega))])); rw [World.cell?_alloc_at _ _ _ _ (by simp)]; rfl)
              have n1 := Kep.all g1 (a := ⟨w.heap.size + 1 + 1 + 1, 1, none⟩) (v := .int .i32 ny) (by (repeat (first | rw [World.cell?_drew] | rw [World.cell?_alloc_past _ _ _ (by first | (simp; done) | (simp; omega))])); rw [World.cell?_alloc_at _ _ _ _ (by simp)]; rfl)
              have d0 := Kep.all g1 (a := ⟨w.heap.size + 1 + 1 + 1 + 1, 0, none⟩) (v := .int .i32 vx) (by (repeat (first | rw [World.cell?_drew] | rw [World.cell?_alloc_past _ _ _ (by first | (simp; done) | (simp; omega))])); rw [World.cell?_alloc_at _ _ _ _ (by simp)]; rfl)
              have d1 := Kep.all g1 (a := ⟨w.heap.size + 1 + 1 + 1 + 1, 1, none⟩) (v := .int .i32 vy) (by (repeat (first | rw [World.cell?_drew] | rw [World.cell?_alloc_past _ _ _ (by first | (simp; done) | (simp; omega))])); rw [World.cell?_alloc_at _ _ _ _ (by simp)]; rfl)
              have gg := kep_next (kep_more (kep_more (kep_more (kep_more (kep_more (Kep.refl _ _) _) _) _) _) _) g1
              have zp_w1 : w.heap.size < w1.heap.size := World.block_lt_of_cell? _ _ p0
              have zq_w1 : w.heap.size + 1 < w1.heap.size := World.block_lt_of_cell? _ _ q0
              have zm_w1 : w.heap.size + 1 + 1 < w1.heap.size := World.block_lt_of_cell? _ _ m0
              have zn_w1 : w.heap.size + 1 + 1 + 1 < w1.heap.size := World.block_lt_of_cell? _ _ n0
              have zd_w1 : w.heap.size + 1 + 1 + 1 + 1 < w1.heap.size := World.block_lt_of_cell? _ _ d0))
      | ((with_reducible refine (RR.out _).mono ?_); rintro e w2 ⟨rfl, g2⟩
         replace p0 := Kep.all g2 (a := ⟨w.heap.size, 0, none⟩) (v := .int .i32 px) p0
         replace p1 := Kep.all g2 (a := ⟨w.heap.size, 1, none⟩) (v := .int .i32 py) p1
         replace q0 := Kep.all g2 (a := ⟨w.heap.size + 1, 0, none⟩) (v := .int .i32 qx) q0
         replace q1 := Kep.all g2 (a := ⟨w.heap.size + 1, 1, none⟩) (v := .int .i32 qy) q1
         replace m0 := Kep.all g2 (a := ⟨w.heap.size + 1 + 1, 0, none⟩) (v := .int .i32 mx) m0
         replace m1 := Kep.all g2 (a := ⟨w.heap.size + 1 + 1, 1, none⟩) (v := .int .i32 my) m1
         replace n0 := Kep.all g2 (a := ⟨w.heap.size + 1 + 1 + 1, 0, none⟩) (v := .int .i32 nx) n0
         replace n1 := Kep.all g2 (a := ⟨w.heap.size + 1 + 1 + 1, 1, none⟩) (v := .int .i32 ny) n1
         replace d0 := Kep.all g2 (a := ⟨w.heap.size + 1 + 1 + 1 + 1, 0, none⟩) (v := .int .i32 vx) d0
         replace d1 := Kep.all g2 (a := ⟨w.heap.size + 1 + 1 + 1 + 1, 1, none⟩) (v := .int .i32 vy) d1
         replace gg := kep_next gg g2
         have zp_w2 : w.heap.size < w2.heap.size := World.block_lt_of_cell? _ _ p0
         have zq_w2 : w.heap.size + 1 < w2.heap.size := World.block_lt_of_cell? _ _ q0
         have zm_w2 : w.heap.size + 1 + 1 < w2.heap.size := World.block_lt_of_cell? _ _ m0
         have zn_w2 : w.heap.size + 1 + 1 + 1 < w2.heap.size := World.block_lt_of_cell? _ _ n0
         have zd_w2 : w.heap.size + 1 + 1 + 1 + 1 < w2.heap.size := World.block_lt_of_cell? _ _ d0))
    go_ret
    exact ⟨rfl, gg⟩
  have c1 : decide ((1000000000 : Int) < vx) = false := decide_eq_false k1
  by_cases k2 : vy < -1000000000
  · have c2 : decide (vy < (-1000000000 : Int)) = true := decide_eq_true k2
    clear hv
    go_enter Try.func6, Try.ntmps6
    go_wp2_with (first
      | ((with_reducible refine (AW.out _).mono ?_); rintro e w1 ⟨rfl, g1⟩
         first
           | (replace gg := kep_next gg g1)
           | (have p0 := Kep.all g1 (a := ⟨w.heap.size, 0, none⟩) (v := .int .i32 px) (by (repeat (first | rw [World.cell?_drew] | rw [World.cell?_alloc_past _ _ _ (by first | (simp; done) | (simp; omega))])); rw [World.cell?_alloc_at _ _ _ _ (by simp)]; rfl)
              have p1 := Kep.all g1 (a := ⟨w.heap.size, 1, none⟩) (v := .int .i32 py) (by (repeat (first | rw [World.cell?_drew] | rw [World.cell?_alloc_past _ _ _ (by first | (simp; done) | (simp; omega))])); rw [World.cell?_alloc_at _ _ _ _ (by simp)]; rfl)
              have q0 := Kep.all g1 (a := ⟨w.heap.size + 1, 0, none⟩) (v := .int .i32 qx) (by (repeat (first | rw [World.cell?_drew] | rw [World.cell?_alloc_past _ _ _ (by first | (simp; done) | (simp; omega))])); rw [World.cell?_alloc_at _ _ _ _ (by simp)]; rfl)
              have q1 := Kep.all g1 (a := ⟨w.heap.size + 1, 1, none⟩) (v := .int .i32 qy) (by (repeat (first | rw [World.cell?_drew] | rw [World.cell?_alloc_past _ _ _ (by first | (simp; done) | (simp; omega))])); rw [World.cell?_alloc_at _ _ _ _ (by simp)]; rfl)
              have m0 := Kep.all g1 (a := ⟨w.heap.size + 1 + 1, 0, none⟩) (v := .int .i32 mx) (by (repeat (first | rw [World.cell?_drew] | rw [World.cell?_alloc_past _ _ _ (by first | (simp; done) | (simp; omega))])); rw [World.cell?_alloc_at _ _ _ _ (by simp)]; rfl)
              have m1 := Kep.all g1 (a := ⟨w.heap.size + 1 + 1, 1, none⟩) (v := .int .i32 my) (by (repeat (first | rw [World.cell?_drew] | rw [World.cell?_alloc_past _ _ _ (by first | (simp; done) | (simp; omega))])); rw [World.cell?_alloc_at _ _ _ _ (by simp)]; rfl)
              have n0 := Kep.all g1 (a := ⟨w.heap.size + 1 + 1 + 1, 0, none⟩) (v := .int .i32 nx) (by (repeat (first | rw [World.cell?_drew] | rw [World.cell?_alloc_past _ _ _ (by first | (simp; done) | (simp; omega))])); rw [World.cell?_alloc_at _ _ _ _ (by simp)]; rfl)
              have n1 := Kep.all g1 (a := ⟨w.heap.size + 1 + 1 + 1, 1, none⟩) (v := .int .i32 ny) (by (repeat (first | rw [World.cell?_drew] | rw [World.cell?_alloc_past _ _ _ (by first | (simp; done) | (simp; omega))])); rw [World.cell?_alloc_at _ _ _ _ (by simp)]; rfl)
              have d0 := Kep.all g1 (a := ⟨w.heap.size + 1 + 1 + 1 + 1, 0, none⟩) (v := .int .i32 vx) (by (repeat (first | rw [World.cell?_drew] | rw [World.cell?_alloc_past _ _ _ (by first | (simp; done) | (simp; omega))])); rw [World.cell?_alloc_at _ _ _ _ (by simp)]; rfl)
              have d1 := Kep.all g1 (a := ⟨w.heap.size + 1 + 1 + 1 + 1, 1, none⟩) (v := .int .i32 vy) (by (repeat (first | rw [World.cell?_drew] | rw [World.cell?_alloc_past _ _ _ (by first | (simp; done) | (simp; omega))])); rw [World.cell?_alloc_at _ _ _ _ (by simp)]; rfl)
              have gg := kep_next (kep_more (kep_more (kep_more (kep_more (kep_more (Kep.refl _ _) _) _) _) _) _) g1
              have zp_w1 : w.heap.size < w1.heap.size := World.block_lt_of_cell? _ _ p0
              have zq_w1 : w.heap.size + 1 < w1.heap.size := World.block_lt_of_cell? _ _ q0
              have zm_w1 : w.heap.size + 1 + 1 < w1.heap.size := World.block_lt_of_cell? _ _ m0
              have zn_w1 : w.heap.size + 1 + 1 + 1 < w1.heap.size := World.block_lt_of_cell? _ _ n0
              have zd_w1 : w.heap.size + 1 + 1 + 1 + 1 < w1.heap.size := World.block_lt_of_cell? _ _ d0))
      | ((with_reducible refine (RR.out _).mono ?_); rintro e w2 ⟨rfl, g2⟩
         replace p0 := Kep.all g2 (a := ⟨w.heap.size, 0, none⟩) (v := .int .i32 px) p0
         replace p1 := Kep.all g2 (a := ⟨w.heap.size, 1, none⟩) (v := .int .i32 py) p1
         replace q0 := Kep.all g2 (a := ⟨w.heap.size + 1, 0, none⟩) (v := .int .i32 qx) q0
         replace q1 := Kep.all g2 (a := ⟨w.heap.size + 1, 1, none⟩) (v := .int .i32 qy) q1
         replace m0 := Kep.all g2 (a := ⟨w.heap.size + 1 + 1, 0, none⟩) (v := .int .i32 mx) m0
         replace m1 := Kep.all g2 (a := ⟨w.heap.size + 1 + 1, 1, none⟩) (v := .int .i32 my) m1
         replace n0 := Kep.all g2 (a := ⟨w.heap.size + 1 + 1 + 1, 0, none⟩) (v := .int .i32 nx) n0
         replace n1 := Kep.all g2 (a := ⟨w.heap.size + 1 + 1 + 1, 1, none⟩) (v := .int .i32 ny) n1
         replace d0 := Kep.all g2 (a := ⟨w.heap.size + 1 + 1 + 1 + 1, 0, none⟩) (v := .int .i32 vx) d0
         replace d1 := Kep.all g2 (a := ⟨w.heap.size + 1 + 1 + 1 + 1, 1, none⟩) (v := .int .i32 vy) d1
         replace gg := kep_next gg g2
         have zp_w2 : w.heap.size < w2.heap.size := World.block_lt_of_cell? _ _ p0
         have zq_w2 : w.heap.size + 1 < w2.heap.size := World.block_lt_of_cell? _ _ q0
         have zm_w2 : w.heap.size + 1 + 1 < w2.heap.size := World.block_lt_of_cell? _ _ m0
         have zn_w2 : w.heap.size + 1 + 1 + 1 < w2.heap.size := World.block_lt_of_cell? _ _ n0
         have zd_w2 : w.heap.size + 1 + 1 + 1 + 1 < w2.heap.size := World.block_lt_of_cell? _ _ d0))
    go_ret
    exact ⟨rfl, gg⟩
  have c2 : decide (vy < (-1000000000 : Int)) = false := decide_eq_false k2
  have c3 : decide ((1000000000 : Int) < vy) = true := decide_eq_true (by omega)
  clear hv
  go_enter Try.func6, Try.ntmps6
  go_wp2_with (first
    | ((with_reducible refine (AW.out _).mono ?_); rintro e w1 ⟨rfl, g1⟩
       first
         | (replace gg := kep_next gg g1)
         | (have p0 := Kep.all g1 (a := ⟨w.heap.size, 0, none⟩) (v := .int .i32 px) (by (repeat (first | rw [World.cell?_drew] | rw [World.cell?_alloc_past _ _ _ (by first | (simp; done) | (simp; omega))])); rw [World.cell?_alloc_at _ _ _ _ (by simp)]; rfl)
            have p1 := Kep.all g1 (a := ⟨w.heap.size, 1, none⟩) (v := .int .i32 py) (by (repeat (first | rw [World.cell?_drew] | rw [World.cell?_alloc_past _ _ _ (by first | (simp; done) | (simp; omega))])); rw [World.cell?_alloc_at _ _ _ _ (by simp)]; rfl)
            have q0 := Kep.all g1 (a := ⟨w.heap.size + 1, 0, none⟩) (v := .int .i32 qx) (by (repeat (first | rw [World.cell?_drew] | rw [World.cell?_alloc_past _ _ _ (by first | (simp; done) | (simp; omega))])); rw [World.cell?_alloc_at _ _ _ _ (by simp)]; rfl)
            have q1 := Kep.all g1 (a := ⟨w.heap.size + 1, 1, none⟩) (v := .int .i32 qy) (by (repeat (first | rw [World.cell?_drew] | rw [World.cell?_alloc_past _ _ _ (by first | (simp; done) | (simp; omega))])); rw [World.cell?_alloc_at _ _ _ _ (by simp)]; rfl)
            have m0 := Kep.all g1 (a := ⟨w.heap.size + 1 + 1, 0, none⟩) (v := .int .i32 mx) (by (repeat (first | rw [World.cell?_drew] | rw [World.cell?_alloc_past _ _ _ (by first | (simp; done) | (simp; omega))])); rw [World.cell?_alloc_at _ _ _ _ (by simp)]; rfl)
            have m1 := Kep.all g1 (a := ⟨w.heap.size + 1 + 1, 1, none⟩) (v := .int .i32 my) (by (repeat (first | rw [World.cell?_drew] | rw [World.cell?_alloc_past _ _ _ (by first | (simp; done) | (simp; omega))])); rw [World.cell?_alloc_at _ _ _ _ (by simp)]; rfl)
            have n0 := Kep.all g1 (a := ⟨w.heap.size + 1 + 1 + 1, 0, none⟩) (v := .int .i32 nx) (by (repeat (first | rw [World.cell?_drew] | rw [World.cell?_alloc_past _ _ _ (by first | (simp; done) | (simp; omega))])); rw [World.cell?_alloc_at _ _ _ _ (by simp)]; rfl)
            have n1 := Kep.all g1 (a := ⟨w.heap.size + 1 + 1 + 1, 1, none⟩) (v := .int .i32 ny) (by (repeat (first | rw [World.cell?_drew] | rw [World.cell?_alloc_past _ _ _ (by first | (simp; done) | (simp; omega))])); rw [World.cell?_alloc_at _ _ _ _ (by simp)]; rfl)
            have d0 := Kep.all g1 (a := ⟨w.heap.size + 1 + 1 + 1 + 1, 0, none⟩) (v := .int .i32 vx) (by (repeat (first | rw [World.cell?_drew] | rw [World.cell?_alloc_past _ _ _ (by first | (simp; done) | (simp; omega))])); rw [World.cell?_alloc_at _ _ _ _ (by simp)]; rfl)
            have d1 := Kep.all g1 (a := ⟨w.heap.size + 1 + 1 + 1 + 1, 1, none⟩) (v := .int .i32 vy) (by (repeat (first | rw [World.cell?_drew] | rw [World.cell?_alloc_past _ _ _ (by first | (simp; done) | (simp; omega))])); rw [World.cell?_alloc_at _ _ _ _ (by simp)]; rfl)
            have gg := kep_next (kep_more (kep_more (kep_more (kep_more (kep_more (Kep.refl _ _) _) _) _) _) _) g1
            have zp_w1 : w.heap.size < w1.heap.size := World.block_lt_of_cell? _ _ p0
            have zq_w1 : w.heap.size + 1 < w1.heap.size := World.block_lt_of_cell? _ _ q0
            have zm_w1 : w.heap.size + 1 + 1 < w1.heap.size := World.block_lt_of_cell? _ _ m0
            have zn_w1 : w.heap.size + 1 + 1 + 1 < w1.heap.size := World.block_lt_of_cell? _ _ n0
            have zd_w1 : w.heap.size + 1 + 1 + 1 + 1 < w1.heap.size := World.block_lt_of_cell? _ _ d0))
    | ((with_reducible refine (RR.out _).mono ?_); rintro e w2 ⟨rfl, g2⟩
       replace p0 := Kep.all g2 (a := ⟨w.heap.size, 0, none⟩) (v := .int .i32 px) p0
       replace p1 := Kep.all g2 (a := ⟨w.heap.size, 1, none⟩) (v := .int .i32 py) p1
       replace q0 := Kep.all g2 (a := ⟨w.heap.size + 1, 0, none⟩) (v := .int .i32 qx) q0
       replace q1 := Kep.all g2 (a := ⟨w.heap.size + 1, 1, none⟩) (v := .int .i32 qy) q1
       replace m0 := Kep.all g2 (a := ⟨w.heap.size + 1 + 1, 0, none⟩) (v := .int .i32 mx) m0
       replace m1 := Kep.all g2 (a := ⟨w.heap.size + 1 + 1, 1, none⟩) (v := .int .i32 my) m1
       replace n0 := Kep.all g2 (a := ⟨w.heap.size + 1 + 1 + 1, 0, none⟩) (v := .int .i32 nx) n0
       replace n1 := Kep.all g2 (a := ⟨w.heap.size + 1 + 1 + 1, 1, none⟩) (v := .int .i32 ny) n1
       replace d0 := Kep.all g2 (a := ⟨w.heap.size + 1 + 1 + 1 + 1, 0, none⟩) (v := .int .i32 vx) d0
       replace d1 := Kep.all g2 (a := ⟨w.heap.size + 1 + 1 + 1 + 1, 1, none⟩) (v := .int .i32 vy) d1
       replace gg := kep_next gg g2
       have zp_w2 : w.heap.size < w2.heap.size := World.block_lt_of_cell? _ _ p0
       have zq_w2 : w.heap.size + 1 < w2.heap.size := World.block_lt_of_cell? _ _ q0
       have zm_w2 : w.heap.size + 1 + 1 < w2.heap.size := World.block_lt_of_cell? _ _ m0
       have zn_w2 : w.heap.size + 1 + 1 + 1 < w2.heap.size := World.block_lt_of_cell? _ _ n0
       have zd_w2 : w.heap.size + 1 + 1 + 1 + 1 < w2.heap.size := World.block_lt_of_cell? _ _ d0))
  go_ret
  exact ⟨rfl, gg⟩
set_option maxRecDepth 100000 in
set_option maxHeartbeats 2000000 in
theorem svl_far (AW : Hid SAwake) (px py qx qy mx my nx ny vx vy ax ay gx gy ex ey fx fy : Int) (RR : Hid (RR4 px py qx qy mx my nx ny true)) (R2 : Hid (RR4 ax ay gx gy ex ey fx fy false)) (M1 : Hid (MVs px py vx vy ax ay)) (M2 : Hid (MVs qx qy vx vy gx gy)) (M3 : Hid (MVs mx my vx vy ex ey)) (M4 : Hid (MVs nx ny vx vy fx fy))
    (hv : (-1000000000 ≤ vx ∧ vx ≤ 1000000000) ∧ (-1000000000 ≤ vy ∧ vy ≤ 1000000000)) (w : World) : Calls Try.prog 6 #[.agg #[.int .i32 px, .int .i32 py], .agg #[.int .i32 qx, .int .i32 qy], .agg #[.int .i32 mx, .int .i32 my], .agg #[.int .i32 nx, .int .i32 ny], .agg #[.int .i32 vx, .int .i32 vy]] w fun e w' => e = .returned (.bool true) ∧ Kep w.heap.size w w' := by
  have k0 : decide (vx < (-1000000000 : Int)) = false := decide_eq_false (by omega)
  have k1 : decide ((1000000000 : Int) < vx) = false := decide_eq_false (by omega)
  have k2 : decide (vy < (-1000000000 : Int)) = false := decide_eq_false (by omega)
  have k3 : decide ((1000000000 : Int) < vy) = false := decide_eq_false (by omega)
  clear hv
  go_enter Try.func6, Try.ntmps6
  go_wp2_with (first
    | ((with_reducible refine (AW.out _).mono ?_); rintro e w1 ⟨rfl, g1⟩
       have p0 := Kep.all g1 (a := ⟨w.heap.size, 0, none⟩) (v := .int .i32 px) (by (repeat (first | rw [World.cell?_drew] | rw [World.cell?_alloc_past _ _ _ (by first | (simp; done) | (simp; omega))])); rw [World.cell?_alloc_at _ _ _ _ (by simp)]; rfl)
       have p1 := Kep.all g1 (a := ⟨w.heap.size, 1, none⟩) (v := .int .i32 py) (by (repeat (first | rw [World.cell?_drew] | rw [World.cell?_alloc_past _ _ _ (by first | (simp; done) | (simp; omega))])); rw [World.cell?_alloc_at _ _ _ _ (by simp)]; rfl)
       have q0 := Kep.all g1 (a := ⟨w.heap.size + 1, 0, none⟩) (v := .int .i32 qx) (by (repeat (first | rw [World.cell?_drew] | rw [World.cell?_alloc_past _ _ _ (by first | (simp; done) | (simp; omega))])); rw [World.cell?_alloc_at _ _ _ _ (by simp)]; rfl)
       have q1 := Kep.all g1 (a := ⟨w.heap.size + 1, 1, none⟩) (v := .int .i32 qy) (by (repeat (first | rw [World.cell?_drew] | rw [World.cell?_alloc_past _ _ _ (by first | (simp; done) | (simp; omega))])); rw [World.cell?_alloc_at _ _ _ _ (by simp)]; rfl)
       have m0 := Kep.all g1 (a := ⟨w.heap.size + 1 + 1, 0, none⟩) (v := .int .i32 mx) (by (repeat (first | rw [World.cell?_drew] | rw [World.cell?_alloc_past _ _ _ (by first | (simp; done) | (simp; omega))])); rw [World.cell?_alloc_at _ _ _ _ (by simp)]; rfl)
       have m1 := Kep.all g1 (a := ⟨w.heap.size + 1 + 1, 1, none⟩) (v := .int .i32 my) (by (repeat (first | rw [World.cell?_drew] | rw [World.cell?_alloc_past _ _ _ (by first | (simp; done) | (simp; omega))])); rw [World.cell?_alloc_at _ _ _ _ (by simp)]; rfl)
       have n0 := Kep.all g1 (a := ⟨w.heap.size + 1 + 1 + 1, 0, none⟩) (v := .int .i32 nx) (by (repeat (first | rw [World.cell?_drew] | rw [World.cell?_alloc_past _ _ _ (by first | (simp; done) | (simp; omega))])); rw [World.cell?_alloc_at _ _ _ _ (by simp)]; rfl)
       have n1 := Kep.all g1 (a := ⟨w.heap.size + 1 + 1 + 1, 1, none⟩) (v := .int .i32 ny) (by (repeat (first | rw [World.cell?_drew] | rw [World.cell?_alloc_past _ _ _ (by first | (simp; done) | (simp; omega))])); rw [World.cell?_alloc_at _ _ _ _ (by simp)]; rfl)
       have d0 := Kep.all g1 (a := ⟨w.heap.size + 1 + 1 + 1 + 1, 0, none⟩) (v := .int .i32 vx) (by (repeat (first | rw [World.cell?_drew] | rw [World.cell?_alloc_past _ _ _ (by first | (simp; done) | (simp; omega))])); rw [World.cell?_alloc_at _ _ _ _ (by simp)]; rfl)
       have d1 := Kep.all g1 (a := ⟨w.heap.size + 1 + 1 + 1 + 1, 1, none⟩) (v := .int .i32 vy) (by (repeat (first | rw [World.cell?_drew] | rw [World.cell?_alloc_past _ _ _ (by first | (simp; done) | (simp; omega))])); rw [World.cell?_alloc_at _ _ _ _ (by simp)]; rfl)
       have gg := kep_next (kep_more (kep_more (kep_more (kep_more (kep_more (Kep.refl _ _) _) _) _) _) _) g1
       have zp_w1 : w.heap.size < w1.heap.size := World.block_lt_of_cell? _ _ p0
       have zq_w1 : w.heap.size + 1 < w1.heap.size := World.block_lt_of_cell? _ _ q0
       have zm_w1 : w.heap.size + 1 + 1 < w1.heap.size := World.block_lt_of_cell? _ _ m0
       have zn_w1 : w.heap.size + 1 + 1 + 1 < w1.heap.size := World.block_lt_of_cell? _ _ n0
       have zd_w1 : w.heap.size + 1 + 1 + 1 + 1 < w1.heap.size := World.block_lt_of_cell? _ _ d0)
    | ((with_reducible refine (RR.out _).mono ?_); rintro e w2 ⟨rfl, g2⟩
       replace p0 := Kep.all g2 (a := ⟨w.heap.size, 0, none⟩) (v := .int .i32 px) p0
       replace p1 := Kep.all g2 (a := ⟨w.heap.size, 1, none⟩) (v := .int .i32 py) p1
       replace q0 := Kep.all g2 (a := ⟨w.heap.size + 1, 0, none⟩) (v := .int .i32 qx) q0
       replace q1 := Kep.all g2 (a := ⟨w.heap.size + 1, 1, none⟩) (v := .int .i32 qy) q1
       replace m0 := Kep.all g2 (a := ⟨w.heap.size + 1 + 1, 0, none⟩) (v := .int .i32 mx) m0
       replace m1 := Kep.all g2 (a := ⟨w.heap.size + 1 + 1, 1, none⟩) (v := .int .i32 my) m1
       replace n0 := Kep.all g2 (a := ⟨w.heap.size + 1 + 1 + 1, 0, none⟩) (v := .int .i32 nx) n0
       replace n1 := Kep.all g2 (a := ⟨w.heap.size + 1 + 1 + 1, 1, none⟩) (v := .int .i32 ny) n1
       replace d0 := Kep.all g2 (a := ⟨w.heap.size + 1 + 1 + 1 + 1, 0, none⟩) (v := .int .i32 vx) d0
       replace d1 := Kep.all g2 (a := ⟨w.heap.size + 1 + 1 + 1 + 1, 1, none⟩) (v := .int .i32 vy) d1
       replace gg := kep_next gg g2
       have zp_w2 : w.heap.size < w2.heap.size := World.block_lt_of_cell? _ _ p0
       have zq_w2 : w.heap.size + 1 < w2.heap.size := World.block_lt_of_cell? _ _ q0
       have zm_w2 : w.heap.size + 1 + 1 < w2.heap.size := World.block_lt_of_cell? _ _ m0
       have zn_w2 : w.heap.size + 1 + 1 + 1 < w2.heap.size := World.block_lt_of_cell? _ _ n0
       have zd_w2 : w.heap.size + 1 + 1 + 1 + 1 < w2.heap.size := World.block_lt_of_cell? _ _ d0))
  refine wp_region_noPanic ?_
  refine wp_region_held_drew (S := (fun w' => w'.cell? ⟨w.heap.size, 0, none⟩ = some (.int .i32 px) ∧ w'.cell? ⟨w.heap.size, 1, none⟩ = some (.int .i32 py) ∧ w'.cell? ⟨w.heap.size + 1, 0, none⟩ = some (.int .i32 qx) ∧ w'.cell? ⟨w.heap.size + 1, 1, none⟩ = some (.int .i32 qy) ∧ w'.cell? ⟨w.heap.size + 1 + 1, 0, none⟩ = some (.int .i32 mx) ∧ w'.cell? ⟨w.heap.size + 1 + 1, 1, none⟩ = some (.int .i32 my) ∧ w'.cell? ⟨w.heap.size + 1 + 1 + 1, 0, none⟩ = some (.int .i32 nx) ∧ w'.cell? ⟨w.heap.size + 1 + 1 + 1, 1, none⟩ = some (.int .i32 ny) ∧ w'.cell? ⟨w.heap.size + 1 + 1 + 1 + 1, 0, none⟩ = some (.int .i32 vx) ∧ w'.cell? ⟨w.heap.size + 1 + 1 + 1 + 1, 1, none⟩ = some (.int .i32 vy) ∧ Kep w.heap.size w w')) (by kernel_rfl) (⟨by rw [World.cell?_drew]; exact p0, by rw [World.cell?_drew]; exact p1, by rw [World.cell?_drew]; exact q0, by rw [World.cell?_drew]; exact q1, by rw [World.cell?_drew]; exact m0, by rw [World.cell?_drew]; exact m1, by rw [World.cell?_drew]; exact n0, by rw [World.cell?_drew]; exact n1, by rw [World.cell?_drew]; exact d0, by rw [World.cell?_drew]; exact d1, kep_drew gg⟩) (fun hH => ?_)
  refine wpAnyH_take (i := 0) (oi := { dst := some 46, op := Op.load 23 (Operand.tmp 5), type := _, pos := _, after := _, guard := none }) (v := ?_) rfl (by kernel_rfl) (by kernel_rfl) (by kernel_rfl) (fun _ _ _ h => h) (Or.inl ⟨by rfl, ?_⟩) hH ?_
  rotate_left
  · (intro w hSw; (try dsimp only at hSw); go_simp; (try with_reducible rfl))
  try simp only [Act.put, List.setIfInBounds_toArray, List.set_cons_zero, List.set_cons_succ]
  refine wpAnyH_take (i := 1) (oi := { dst := some 47, op := Op.load 23 (Operand.tmp 9), type := _, pos := _, after := _, guard := none }) (v := ?_) rfl (by kernel_rfl) (by kernel_rfl) (by kernel_rfl) (fun _ _ _ h => h) (Or.inl ⟨by rfl, ?_⟩) hH ?_
  rotate_left
  · (intro w hSw; (try dsimp only at hSw); go_simp; (try with_reducible rfl))
  try simp only [Act.put, List.setIfInBounds_toArray, List.set_cons_zero, List.set_cons_succ]
  refine wpAnyH_take (i := 3) (oi := { dst := some 49, op := Op.load 23 (Operand.tmp 6), type := _, pos := _, after := _, guard := none }) (v := ?_) rfl (by kernel_rfl) (by kernel_rfl) (by kernel_rfl) (fun _ _ _ h => h) (Or.inl ⟨by rfl, ?_⟩) hH ?_
  rotate_left
  · (intro w hSw; (try dsimp only at hSw); go_simp; (try with_reducible rfl))
  try simp only [Act.put, List.setIfInBounds_toArray, List.set_cons_zero, List.set_cons_succ]
  refine wpAnyH_take (i := 4) (oi := { dst := some 50, op := Op.load 23 (Operand.tmp 9), type := _, pos := _, after := _, guard := none }) (v := ?_) rfl (by kernel_rfl) (by kernel_rfl) (by kernel_rfl) (fun _ _ _ h => h) (Or.inl ⟨by rfl, ?_⟩) hH ?_
  rotate_left
  · (intro w hSw; (try dsimp only at hSw); go_simp; (try with_reducible rfl))
  try simp only [Act.put, List.setIfInBounds_toArray, List.set_cons_zero, List.set_cons_succ]
  refine wpAnyH_take (i := 6) (oi := { dst := some 52, op := Op.load 23 (Operand.tmp 7), type := _, pos := _, after := _, guard := none }) (v := ?_) rfl (by kernel_rfl) (by kernel_rfl) (by kernel_rfl) (fun _ _ _ h => h) (Or.inl ⟨by rfl, ?_⟩) hH ?_
  rotate_left
  · (intro w hSw; (try dsimp only at hSw); go_simp; (try with_reducible rfl))
  try simp only [Act.put, List.setIfInBounds_toArray, List.set_cons_zero, List.set_cons_succ]
  refine wpAnyH_take (i := 7) (oi := { dst := some 53, op := Op.load 23 (Operand.tmp 9), type := _, pos := _, after := _, guard := none }) (v := ?_) rfl (by kernel_rfl) (by kernel_rfl) (by kernel_rfl) (fun _ _ _ h => h) (Or.inl ⟨by rfl, ?_⟩) hH ?_
  rotate_left
  · (intro w hSw; (try dsimp only at hSw); go_simp; (try with_reducible rfl))
  try simp only [Act.put, List.setIfInBounds_toArray, List.set_cons_zero, List.set_cons_succ]
  refine wpAnyH_take (i := 9) (oi := { dst := some 55, op := Op.load 23 (Operand.tmp 8), type := _, pos := _, after := _, guard := none }) (v := ?_) rfl (by kernel_rfl) (by kernel_rfl) (by kernel_rfl) (fun _ _ _ h => h) (Or.inl ⟨by rfl, ?_⟩) hH ?_
  rotate_left
  · (intro w hSw; (try dsimp only at hSw); go_simp; (try with_reducible rfl))
  try simp only [Act.put, List.setIfInBounds_toArray, List.set_cons_zero, List.set_cons_succ]
  refine wpAnyH_take (i := 10) (oi := { dst := some 56, op := Op.load 23 (Operand.tmp 9), type := _, pos := _, after := _, guard := none }) (v := ?_) rfl (by kernel_rfl) (by kernel_rfl) (by kernel_rfl) (fun _ _ _ h => h) (Or.inl ⟨by rfl, ?_⟩) hH ?_
  rotate_left
  · (intro w hSw; (try dsimp only at hSw); go_simp; (try with_reducible rfl))
  try simp only [Act.put, List.setIfInBounds_toArray, List.set_cons_zero, List.set_cons_succ]
  refine wpAnyH_ready (rs := [2]) (by kernel_rfl) (by simp) ?_
  refine AllReadyH.cons (o := { dst := some 48, op := Op.call { callee := Callee.value (Operand.func 15), args := #[Operand.tmp 46, Operand.tmp 47], argTypes := #[23, 23] }, type := _, pos := _, after := _, guard := none }) rfl (fun K hK => ?_) AllReadyH.nil
  go_simp
  (with_reducible refine (M1.out _).mono ?_); rintro e v3_2 ⟨rfl, g⟩
  refine hK.out _ _ (by (try dsimp only); (go_split_ands; exact ⟨Kep.all g (by assumption), Kep.all g (by assumption), Kep.all g (by assumption), Kep.all g (by assumption), Kep.all g (by assumption), Kep.all g (by assumption), Kep.all g (by assumption), Kep.all g (by assumption), Kep.all g (by assumption), Kep.all g (by assumption), kep_next (by assumption) g⟩)) (fun hH2 => ?_)
  clear hK K hH; have hH := hH2; clear hH2
  try simp only [Act.put, List.setIfInBounds_toArray, List.set_cons_zero, List.set_cons_succ]
  refine wpAnyH_ready (rs := [5]) (by kernel_rfl) (by simp) ?_
  refine AllReadyH.cons (o := { dst := some 51, op := Op.call { callee := Callee.value (Operand.func 15), args := #[Operand.tmp 49, Operand.tmp 50], argTypes := #[23, 23] }, type := _, pos := _, after := _, guard := none }) rfl (fun K hK => ?_) AllReadyH.nil
  go_simp
  (with_reducible refine (M2.out _).mono ?_); rintro e v3_5 ⟨rfl, g⟩
  refine hK.out _ _ (by (try dsimp only); (go_split_ands; exact ⟨Kep.all g (by assumption), Kep.all g (by assumption), Kep.all g (by assumption), Kep.all g (by assumption), Kep.all g (by assumption), Kep.all g (by assumption), Kep.all g (by assumption), Kep.all g (by assumption), Kep.all g (by assumption), Kep.all g (by assumption), kep_next (by assumption) g⟩)) (fun hH2 => ?_)
  clear hK K hH; have hH := hH2; clear hH2
  try simp only [Act.put, List.setIfInBounds_toArray, List.set_cons_zero, List.set_cons_succ]
  refine wpAnyH_ready (rs := [8]) (by kernel_rfl) (by simp) ?_
  refine AllReadyH.cons (o := { dst := some 54, op := Op.call { callee := Callee.value (Operand.func 15), args := #[Operand.tmp 52, Operand.tmp 53], argTypes := #[23, 23] }, type := _, pos := _, after := _, guard := none }) rfl (fun K hK => ?_) AllReadyH.nil
  go_simp
  (with_reducible refine (M3.out _).mono ?_); rintro e v3_8 ⟨rfl, g⟩
  refine hK.out _ _ (by (try dsimp only); (go_split_ands; exact ⟨Kep.all g (by assumption), Kep.all g (by assumption), Kep.all g (by assumption), Kep.all g (by assumption), Kep.all g (by assumption), Kep.all g (by assumption), Kep.all g (by assumption), Kep.all g (by assumption), Kep.all g (by assumption), Kep.all g (by assumption), kep_next (by assumption) g⟩)) (fun hH2 => ?_)
  clear hK K hH; have hH := hH2; clear hH2
  try simp only [Act.put, List.setIfInBounds_toArray, List.set_cons_zero, List.set_cons_succ]
  refine wpAnyH_ready (rs := [11]) (by kernel_rfl) (by simp) ?_
  refine AllReadyH.cons (o := { dst := some 57, op := Op.call { callee := Callee.value (Operand.func 15), args := #[Operand.tmp 55, Operand.tmp 56], argTypes := #[23, 23] }, type := _, pos := _, after := _, guard := none }) rfl (fun K hK => ?_) AllReadyH.nil
  go_simp
  (with_reducible refine (M4.out _).mono ?_); rintro e v3_11 ⟨rfl, g⟩
  refine hK.out _ _ (by (try dsimp only); (go_split_ands; exact ⟨Kep.all g (by assumption), Kep.all g (by assumption), Kep.all g (by assumption), Kep.all g (by assumption), Kep.all g (by assumption), Kep.all g (by assumption), Kep.all g (by assumption), Kep.all g (by assumption), Kep.all g (by assumption), Kep.all g (by assumption), kep_next (by assumption) g⟩)) (fun hH2 => ?_)
  clear hK K hH; have hH := hH2; clear hH2
  try simp only [Act.put, List.setIfInBounds_toArray, List.set_cons_zero, List.set_cons_succ]
  refine wpAnyH_ready (rs := [12]) (by kernel_rfl) (by simp) ?_
  refine AllReadyH.cons (o := { dst := some 58, op := Op.call { callee := Callee.value (Operand.func 9), args := #[Operand.tmp 48, Operand.tmp 51, Operand.tmp 54, Operand.tmp 57], argTypes := #[23, 23, 23, 23] }, type := _, pos := _, after := _, guard := none }) rfl (fun K hK => ?_) AllReadyH.nil
  go_simp
  (with_reducible refine (R2.out _).mono ?_); rintro e v3_12 ⟨rfl, g⟩
  refine hK.out _ _ (by (try dsimp only); (go_split_ands; exact ⟨Kep.all g (by assumption), Kep.all g (by assumption), Kep.all g (by assumption), Kep.all g (by assumption), Kep.all g (by assumption), Kep.all g (by assumption), Kep.all g (by assumption), Kep.all g (by assumption), Kep.all g (by assumption), Kep.all g (by assumption), kep_next (by assumption) g⟩)) (fun hH2 => ?_)
  clear hK K hH; have hH := hH2; clear hH2
  try simp only [Act.put, List.setIfInBounds_toArray, List.set_cons_zero, List.set_cons_succ]
  refine wpAnyH_take (i := 13) (oi := { dst := some 59, op := Op.unOp UnOp.not 4 (Operand.tmp 58), type := _, pos := _, after := _, guard := none }) (v := ?_) rfl (by kernel_rfl) (by kernel_rfl) (by kernel_rfl) (fun _ _ _ h => h) (Or.inl ⟨by rfl, ?_⟩) hH ?_
  rotate_left
  · (intro w hSw; (try dsimp only at hSw); go_simp; (try with_reducible rfl))
  try simp only [Act.put, List.setIfInBounds_toArray, List.set_cons_zero, List.set_cons_succ]
  refine wpAnyH_done (by kernel_rfl) ?_ _
  refine NoPanic.normal ?_
  clear p0 p1 q0 q1 m0 m1 n0 n1 d0 d1 gg
  obtain ⟨p0, p1, q0, q1, m0, m1, n0, n1, d0, d1, gg⟩ := hH
  go_wp2_with fail
  go_ret
  exact ⟨rfl, gg⟩
set_option maxRecDepth 100000 in
set_option maxHeartbeats 16000000 in
theorem svl_main (AW : Hid SAwake) (px py qx qy mx my nx ny vx vy ax ay gx gy ex ey fx fy xa xb xc xd ya yb yc yd : Int) (RR : Hid (RR4 px py qx qy mx my nx ny true)) (R2 : Hid (RR4 ax ay gx gy ex ey fx fy true)) (M1 : Hid (MVs px py vx vy ax ay)) (M2 : Hid (MVs qx qy vx vy gx gy)) (M3 : Hid (MVs mx my vx vy ex ey)) (M4 : Hid (MVs nx ny vx vy fx fy))
    (C1 : Hid (SCh px py qx qy mx my nx ny xa xb xc xd)) (C2 : Hid (SCh ax ay gx gy ex ey fx fy ya yb yc yd)) (M5 : Hid (MVs xa xb vx vy ya yb)) (M6 : Hid (MVs xc xd vx vy yc yd))
    (hv : (-1000000000 ≤ vx ∧ vx ≤ 1000000000) ∧ (-1000000000 ≤ vy ∧ vy ≤ 1000000000)) (w : World) : Calls Try.prog 6 #[.agg #[.int .i32 px, .int .i32 py], .agg #[.int .i32 qx, .int .i32 qy], .agg #[.int .i32 mx, .int .i32 my], .agg #[.int .i32 nx, .int .i32 ny], .agg #[.int .i32 vx, .int .i32 vy]] w fun e w' => e = .returned (.bool true) ∧ Kep w.heap.size w w' := by
  have k0 : decide (vx < (-1000000000 : Int)) = false := decide_eq_false (by omega)
  have k1 : decide ((1000000000 : Int) < vx) = false := decide_eq_false (by omega)
  have k2 : decide (vy < (-1000000000 : Int)) = false := decide_eq_false (by omega)
  have k3 : decide ((1000000000 : Int) < vy) = false := decide_eq_false (by omega)
  clear hv
  have v1 := fun w => vec_cmp ya yb ya yb true (by simp) w
  have v2 := fun w => vec_cmp yc yd yc yd true (by simp) w
  go_enter Try.func6, Try.ntmps6
  go_wp2_with (first
    | ((with_reducible refine (AW.out _).mono ?_); rintro e w1 ⟨rfl, g1⟩
       have p0 := Kep.all g1 (a := ⟨w.heap.size, 0, none⟩) (v := .int .i32 px) (by (repeat (first | rw [World.cell?_drew] | rw [World.cell?_alloc_past _ _ _ (by first | (simp; done) | (simp; omega))])); rw [World.cell?_alloc_at _ _ _ _ (by simp)]; rfl)
       have p1 := Kep.all g1 (a := ⟨w.heap.size, 1, none⟩) (v := .int .i32 py) (by (repeat (first | rw [World.cell?_drew] | rw [World.cell?_alloc_past _ _ _ (by first | (simp; done) | (simp; omega))])); rw [World.cell?_alloc_at _ _ _ _ (by simp)]; rfl)
       have q0 := Kep.all g1 (a := ⟨w.heap.size + 1, 0, none⟩) (v := .int .i32 qx) (by (repeat (first | rw [World.cell?_drew] | rw [World.cell?_alloc_past _ _ _ (by first | (simp; done) | (simp; omega))])); rw [World.cell?_alloc_at _ _ _ _ (by simp)]; rfl)
       have q1 := Kep.all g1 (a := ⟨w.heap.size + 1, 1, none⟩) (v := .int .i32 qy) (by (repeat (first | rw [World.cell?_drew] | rw [World.cell?_alloc_past _ _ _ (by first | (simp; done) | (simp; omega))])); rw [World.cell?_alloc_at _ _ _ _ (by simp)]; rfl)
       have m0 := Kep.all g1 (a := ⟨w.heap.size + 1 + 1, 0, none⟩) (v := .int .i32 mx) (by (repeat (first | rw [World.cell?_drew] | rw [World.cell?_alloc_past _ _ _ (by first | (simp; done) | (simp; omega))])); rw [World.cell?_alloc_at _ _ _ _ (by simp)]; rfl)
       have m1 := Kep.all g1 (a := ⟨w.heap.size + 1 + 1, 1, none⟩) (v := .int .i32 my) (by (repeat (first | rw [World.cell?_drew] | rw [World.cell?_alloc_past _ _ _ (by first | (simp; done) | (simp; omega))])); rw [World.cell?_alloc_at _ _ _ _ (by simp)]; rfl)
       have n0 := Kep.all g1 (a := ⟨w.heap.size + 1 + 1 + 1, 0, none⟩) (v := .int .i32 nx) (by (repeat (first | rw [World.cell?_drew] | rw [World.cell?_alloc_past _ _ _ (by first | (simp; done) | (simp; omega))])); rw [World.cell?_alloc_at _ _ _ _ (by simp)]; rfl)
       have n1 := Kep.all g1 (a := ⟨w.heap.size + 1 + 1 + 1, 1, none⟩) (v := .int .i32 ny) (by (repeat (first | rw [World.cell?_drew] | rw [World.cell?_alloc_past _ _ _ (by first | (simp; done) | (simp; omega))])); rw [World.cell?_alloc_at _ _ _ _ (by simp)]; rfl)
       have d0 := Kep.all g1 (a := ⟨w.heap.size + 1 + 1 + 1 + 1, 0, none⟩) (v := .int .i32 vx) (by (repeat (first | rw [World.cell?_drew] | rw [World.cell?_alloc_past _ _ _ (by first | (simp; done) | (simp; omega))])); rw [World.cell?_alloc_at _ _ _ _ (by simp)]; rfl)
       have d1 := Kep.all g1 (a := ⟨w.heap.size + 1 + 1 + 1 + 1, 1, none⟩) (v := .int .i32 vy) (by (repeat (first | rw [World.cell?_drew] | rw [World.cell?_alloc_past _ _ _ (by first | (simp; done) | (simp; omega))])); rw [World.cell?_alloc_at _ _ _ _ (by simp)]; rfl)
       have gg := kep_next (kep_more (kep_more (kep_more (kep_more (kep_more (Kep.refl _ _) _) _) _) _) _) g1
       have zp_w1 : w.heap.size < w1.heap.size := World.block_lt_of_cell? _ _ p0
       have zq_w1 : w.heap.size + 1 < w1.heap.size := World.block_lt_of_cell? _ _ q0
       have zm_w1 : w.heap.size + 1 + 1 < w1.heap.size := World.block_lt_of_cell? _ _ m0
       have zn_w1 : w.heap.size + 1 + 1 + 1 < w1.heap.size := World.block_lt_of_cell? _ _ n0
       have zd_w1 : w.heap.size + 1 + 1 + 1 + 1 < w1.heap.size := World.block_lt_of_cell? _ _ d0)
    | ((with_reducible refine (RR.out _).mono ?_); rintro e w2 ⟨rfl, g2⟩
       replace p0 := Kep.all g2 (a := ⟨w.heap.size, 0, none⟩) (v := .int .i32 px) p0
       replace p1 := Kep.all g2 (a := ⟨w.heap.size, 1, none⟩) (v := .int .i32 py) p1
       replace q0 := Kep.all g2 (a := ⟨w.heap.size + 1, 0, none⟩) (v := .int .i32 qx) q0
       replace q1 := Kep.all g2 (a := ⟨w.heap.size + 1, 1, none⟩) (v := .int .i32 qy) q1
       replace m0 := Kep.all g2 (a := ⟨w.heap.size + 1 + 1, 0, none⟩) (v := .int .i32 mx) m0
       replace m1 := Kep.all g2 (a := ⟨w.heap.size + 1 + 1, 1, none⟩) (v := .int .i32 my) m1
       replace n0 := Kep.all g2 (a := ⟨w.heap.size + 1 + 1 + 1, 0, none⟩) (v := .int .i32 nx) n0
       replace n1 := Kep.all g2 (a := ⟨w.heap.size + 1 + 1 + 1, 1, none⟩) (v := .int .i32 ny) n1
       replace d0 := Kep.all g2 (a := ⟨w.heap.size + 1 + 1 + 1 + 1, 0, none⟩) (v := .int .i32 vx) d0
       replace d1 := Kep.all g2 (a := ⟨w.heap.size + 1 + 1 + 1 + 1, 1, none⟩) (v := .int .i32 vy) d1
       replace gg := kep_next gg g2
       have zp_w2 : w.heap.size < w2.heap.size := World.block_lt_of_cell? _ _ p0
       have zq_w2 : w.heap.size + 1 < w2.heap.size := World.block_lt_of_cell? _ _ q0
       have zm_w2 : w.heap.size + 1 + 1 < w2.heap.size := World.block_lt_of_cell? _ _ m0
       have zn_w2 : w.heap.size + 1 + 1 + 1 < w2.heap.size := World.block_lt_of_cell? _ _ n0
       have zd_w2 : w.heap.size + 1 + 1 + 1 + 1 < w2.heap.size := World.block_lt_of_cell? _ _ d0))
  refine wp_region_noPanic ?_
  refine wp_region_held_drew (S := (fun w' => w'.cell? ⟨w.heap.size, 0, none⟩ = some (.int .i32 px) ∧ w'.cell? ⟨w.heap.size, 1, none⟩ = some (.int .i32 py) ∧ w'.cell? ⟨w.heap.size + 1, 0, none⟩ = some (.int .i32 qx) ∧ w'.cell? ⟨w.heap.size + 1, 1, none⟩ = some (.int .i32 qy) ∧ w'.cell? ⟨w.heap.size + 1 + 1, 0, none⟩ = some (.int .i32 mx) ∧ w'.cell? ⟨w.heap.size + 1 + 1, 1, none⟩ = some (.int .i32 my) ∧ w'.cell? ⟨w.heap.size + 1 + 1 + 1, 0, none⟩ = some (.int .i32 nx) ∧ w'.cell? ⟨w.heap.size + 1 + 1 + 1, 1, none⟩ = some (.int .i32 ny) ∧ w'.cell? ⟨w.heap.size + 1 + 1 + 1 + 1, 0, none⟩ = some (.int .i32 vx) ∧ w'.cell? ⟨w.heap.size + 1 + 1 + 1 + 1, 1, none⟩ = some (.int .i32 vy) ∧ Kep w.heap.size w w')) (by kernel_rfl) (⟨by rw [World.cell?_drew]; exact p0, by rw [World.cell?_drew]; exact p1, by rw [World.cell?_drew]; exact q0, by rw [World.cell?_drew]; exact q1, by rw [World.cell?_drew]; exact m0, by rw [World.cell?_drew]; exact m1, by rw [World.cell?_drew]; exact n0, by rw [World.cell?_drew]; exact n1, by rw [World.cell?_drew]; exact d0, by rw [World.cell?_drew]; exact d1, kep_drew gg⟩) (fun hH => ?_)
  refine wpAnyH_take (i := 0) (oi := { dst := some 46, op := Op.load 23 (Operand.tmp 5), type := _, pos := _, after := _, guard := none }) (v := ?_) rfl (by kernel_rfl) (by kernel_rfl) (by kernel_rfl) (fun _ _ _ h => h) (Or.inl ⟨by rfl, ?_⟩) hH ?_
  rotate_left
  · (intro w hSw; (try dsimp only at hSw); go_simp; (try with_reducible rfl))
  try simp only [Act.put, List.setIfInBounds_toArray, List.set_cons_zero, List.set_cons_succ]
  refine wpAnyH_take (i := 1) (oi := { dst := some 47, op := Op.load 23 (Operand.tmp 9), type := _, pos := _, after := _, guard := none }) (v := ?_) rfl (by kernel_rfl) (by kernel_rfl) (by kernel_rfl) (fun _ _ _ h => h) (Or.inl ⟨by rfl, ?_⟩) hH ?_
  rotate_left
  · (intro w hSw; (try dsimp only at hSw); go_simp; (try with_reducible rfl))
  try simp only [Act.put, List.setIfInBounds_toArray, List.set_cons_zero, List.set_cons_succ]
  refine wpAnyH_take (i := 3) (oi := { dst := some 49, op := Op.load 23 (Operand.tmp 6), type := _, pos := _, after := _, guard := none }) (v := ?_) rfl (by kernel_rfl) (by kernel_rfl) (by kernel_rfl) (fun _ _ _ h => h) (Or.inl ⟨by rfl, ?_⟩) hH ?_
  rotate_left
  · (intro w hSw; (try dsimp only at hSw); go_simp; (try with_reducible rfl))
  try simp only [Act.put, List.setIfInBounds_toArray, List.set_cons_zero, List.set_cons_succ]
  refine wpAnyH_take (i := 4) (oi := { dst := some 50, op := Op.load 23 (Operand.tmp 9), type := _, pos := _, after := _, guard := none }) (v := ?_) rfl (by kernel_rfl) (by kernel_rfl) (by kernel_rfl) (fun _ _ _ h => h) (Or.inl ⟨by rfl, ?_⟩) hH ?_
  rotate_left
  · (intro w hSw; (try dsimp only at hSw); go_simp; (try with_reducible rfl))
  try simp only [Act.put, List.setIfInBounds_toArray, List.set_cons_zero, List.set_cons_succ]
  refine wpAnyH_take (i := 6) (oi := { dst := some 52, op := Op.load 23 (Operand.tmp 7), type := _, pos := _, after := _, guard := none }) (v := ?_) rfl (by kernel_rfl) (by kernel_rfl) (by kernel_rfl) (fun _ _ _ h => h) (Or.inl ⟨by rfl, ?_⟩) hH ?_
  rotate_left
  · (intro w hSw; (try dsimp only at hSw); go_simp; (try with_reducible rfl))
  try simp only [Act.put, List.setIfInBounds_toArray, List.set_cons_zero, List.set_cons_succ]
  refine wpAnyH_take (i := 7) (oi := { dst := some 53, op := Op.load 23 (Operand.tmp 9), type := _, pos := _, after := _, guard := none }) (v := ?_) rfl (by kernel_rfl) (by kernel_rfl) (by kernel_rfl) (fun _ _ _ h => h) (Or.inl ⟨by rfl, ?_⟩) hH ?_
  rotate_left
  · (intro w hSw; (try dsimp only at hSw); go_simp; (try with_reducible rfl))
  try simp only [Act.put, List.setIfInBounds_toArray, List.set_cons_zero, List.set_cons_succ]
  refine wpAnyH_take (i := 9) (oi := { dst := some 55, op := Op.load 23 (Operand.tmp 8), type := _, pos := _, after := _, guard := none }) (v := ?_) rfl (by kernel_rfl) (by kernel_rfl) (by kernel_rfl) (fun _ _ _ h => h) (Or.inl ⟨by rfl, ?_⟩) hH ?_
  rotate_left
  · (intro w hSw; (try dsimp only at hSw); go_simp; (try with_reducible rfl))
  try simp only [Act.put, List.setIfInBounds_toArray, List.set_cons_zero, List.set_cons_succ]
  refine wpAnyH_take (i := 10) (oi := { dst := some 56, op := Op.load 23 (Operand.tmp 9), type := _, pos := _, after := _, guard := none }) (v := ?_) rfl (by kernel_rfl) (by kernel_rfl) (by kernel_rfl) (fun _ _ _ h => h) (Or.inl ⟨by rfl, ?_⟩) hH ?_
  rotate_left
  · (intro w hSw; (try dsimp only at hSw); go_simp; (try with_reducible rfl))
  try simp only [Act.put, List.setIfInBounds_toArray, List.set_cons_zero, List.set_cons_succ]
  refine wpAnyH_ready (rs := [2]) (by kernel_rfl) (by simp) ?_
  refine AllReadyH.cons (o := { dst := some 48, op := Op.call { callee := Callee.value (Operand.func 15), args := #[Operand.tmp 46, Operand.tmp 47], argTypes := #[23, 23] }, type := _, pos := _, after := _, guard := none }) rfl (fun K hK => ?_) AllReadyH.nil
  go_simp
  (with_reducible refine (M1.out _).mono ?_); rintro e v3_2 ⟨rfl, g⟩
  refine hK.out _ _ (by (try dsimp only); (go_split_ands; exact ⟨Kep.all g (by assumption), Kep.all g (by assumption), Kep.all g (by assumption), Kep.all g (by assumption), Kep.all g (by assumption), Kep.all g (by assumption), Kep.all g (by assumption), Kep.all g (by assumption), Kep.all g (by assumption), Kep.all g (by assumption), kep_next (by assumption) g⟩)) (fun hH2 => ?_)
  clear hK K hH; have hH := hH2; clear hH2
  try simp only [Act.put, List.setIfInBounds_toArray, List.set_cons_zero, List.set_cons_succ]
  refine wpAnyH_ready (rs := [5]) (by kernel_rfl) (by simp) ?_
  refine AllReadyH.cons (o := { dst := some 51, op := Op.call { callee := Callee.value (Operand.func 15), args := #[Operand.tmp 49, Operand.tmp 50], argTypes := #[23, 23] }, type := _, pos := _, after := _, guard := none }) rfl (fun K hK => ?_) AllReadyH.nil
  go_simp
  (with_reducible refine (M2.out _).mono ?_); rintro e v3_5 ⟨rfl, g⟩
  refine hK.out _ _ (by (try dsimp only); (go_split_ands; exact ⟨Kep.all g (by assumption), Kep.all g (by assumption), Kep.all g (by assumption), Kep.all g (by assumption), Kep.all g (by assumption), Kep.all g (by assumption), Kep.all g (by assumption), Kep.all g (by assumption), Kep.all g (by assumption), Kep.all g (by assumption), kep_next (by assumption) g⟩)) (fun hH2 => ?_)
  clear hK K hH; have hH := hH2; clear hH2
  try simp only [Act.put, List.setIfInBounds_toArray, List.set_cons_zero, List.set_cons_succ]
  refine wpAnyH_ready (rs := [8]) (by kernel_rfl) (by simp) ?_
  refine AllReadyH.cons (o := { dst := some 54, op := Op.call { callee := Callee.value (Operand.func 15), args := #[Operand.tmp 52, Operand.tmp 53], argTypes := #[23, 23] }, type := _, pos := _, after := _, guard := none }) rfl (fun K hK => ?_) AllReadyH.nil
  go_simp
  (with_reducible refine (M3.out _).mono ?_); rintro e v3_8 ⟨rfl, g⟩
  refine hK.out _ _ (by (try dsimp only); (go_split_ands; exact ⟨Kep.all g (by assumption), Kep.all g (by assumption), Kep.all g (by assumption), Kep.all g (by assumption), Kep.all g (by assumption), Kep.all g (by assumption), Kep.all g (by assumption), Kep.all g (by assumption), Kep.all g (by assumption), Kep.all g (by assumption), kep_next (by assumption) g⟩)) (fun hH2 => ?_)
  clear hK K hH; have hH := hH2; clear hH2
  try simp only [Act.put, List.setIfInBounds_toArray, List.set_cons_zero, List.set_cons_succ]
  refine wpAnyH_ready (rs := [11]) (by kernel_rfl) (by simp) ?_
  refine AllReadyH.cons (o := { dst := some 57, op := Op.call { callee := Callee.value (Operand.func 15), args := #[Operand.tmp 55, Operand.tmp 56], argTypes := #[23, 23] }, type := _, pos := _, after := _, guard := none }) rfl (fun K hK => ?_) AllReadyH.nil
  go_simp
  (with_reducible refine (M4.out _).mono ?_); rintro e v3_11 ⟨rfl, g⟩
  refine hK.out _ _ (by (try dsimp only); (go_split_ands; exact ⟨Kep.all g (by assumption), Kep.all g (by assumption), Kep.all g (by assumption), Kep.all g (by assumption), Kep.all g (by assumption), Kep.all g (by assumption), Kep.all g (by assumption), Kep.all g (by assumption), Kep.all g (by assumption), Kep.all g (by assumption), kep_next (by assumption) g⟩)) (fun hH2 => ?_)
  clear hK K hH; have hH := hH2; clear hH2
  try simp only [Act.put, List.setIfInBounds_toArray, List.set_cons_zero, List.set_cons_succ]
  refine wpAnyH_ready (rs := [12]) (by kernel_rfl) (by simp) ?_
  refine AllReadyH.cons (o := { dst := some 58, op := Op.call { callee := Callee.value (Operand.func 9), args := #[Operand.tmp 48, Operand.tmp 51, Operand.tmp 54, Operand.tmp 57], argTypes := #[23, 23, 23, 23] }, type := _, pos := _, after := _, guard := none }) rfl (fun K hK => ?_) AllReadyH.nil
  go_simp
  (with_reducible refine (R2.out _).mono ?_); rintro e v3_12 ⟨rfl, g⟩
  refine hK.out _ _ (by (try dsimp only); (go_split_ands; exact ⟨Kep.all g (by assumption), Kep.all g (by assumption), Kep.all g (by assumption), Kep.all g (by assumption), Kep.all g (by assumption), Kep.all g (by assumption), Kep.all g (by assumption), Kep.all g (by assumption), Kep.all g (by assumption), Kep.all g (by assumption), kep_next (by assumption) g⟩)) (fun hH2 => ?_)
  clear hK K hH; have hH := hH2; clear hH2
  try simp only [Act.put, List.setIfInBounds_toArray, List.set_cons_zero, List.set_cons_succ]
  refine wpAnyH_take (i := 13) (oi := { dst := some 59, op := Op.unOp UnOp.not 4 (Operand.tmp 58), type := _, pos := _, after := _, guard := none }) (v := ?_) rfl (by kernel_rfl) (by kernel_rfl) (by kernel_rfl) (fun _ _ _ h => h) (Or.inl ⟨by rfl, ?_⟩) hH ?_
  rotate_left
  · (intro w hSw; (try dsimp only at hSw); go_simp; (try with_reducible rfl))
  try simp only [Act.put, List.setIfInBounds_toArray, List.set_cons_zero, List.set_cons_succ]
  refine wpAnyH_done (by kernel_rfl) ?_ _
  refine NoPanic.normal ?_
  clear p0 p1 q0 q1 m0 m1 n0 n1 d0 d1 gg
  obtain ⟨p0, p1, q0, q1, m0, m1, n0, n1, d0, d1, gg⟩ := hH
  have zp_v3_12 : w.heap.size < v3_12.heap.size := World.block_lt_of_cell? _ _ p0
  have zq_v3_12 : w.heap.size + 1 < v3_12.heap.size := World.block_lt_of_cell? _ _ q0
  have zm_v3_12 : w.heap.size + 1 + 1 < v3_12.heap.size := World.block_lt_of_cell? _ _ m0
  have zn_v3_12 : w.heap.size + 1 + 1 + 1 < v3_12.heap.size := World.block_lt_of_cell? _ _ n0
  have zd_v3_12 : w.heap.size + 1 + 1 + 1 + 1 < v3_12.heap.size := World.block_lt_of_cell? _ _ d0
  go_upto_region 6 with (first
    | ((with_reducible refine (C1.out _).mono ?_); rintro e w4 ⟨rfl, g4⟩
       replace p0 := Kep.all g4 (a := ⟨w.heap.size, 0, none⟩) (v := .int .i32 px) p0
       replace p1 := Kep.all g4 (a := ⟨w.heap.size, 1, none⟩) (v := .int .i32 py) p1
       replace q0 := Kep.all g4 (a := ⟨w.heap.size + 1, 0, none⟩) (v := .int .i32 qx) q0
       replace q1 := Kep.all g4 (a := ⟨w.heap.size + 1, 1, none⟩) (v := .int .i32 qy) q1
       replace m0 := Kep.all g4 (a := ⟨w.heap.size + 1 + 1, 0, none⟩) (v := .int .i32 mx) m0
       replace m1 := Kep.all g4 (a := ⟨w.heap.size + 1 + 1, 1, none⟩) (v := .int .i32 my) m1
       replace n0 := Kep.all g4 (a := ⟨w.heap.size + 1 + 1 + 1, 0, none⟩) (v := .int .i32 nx) n0
       replace n1 := Kep.all g4 (a := ⟨w.heap.size + 1 + 1 + 1, 1, none⟩) (v := .int .i32 ny) n1
       replace d0 := Kep.all g4 (a := ⟨w.heap.size + 1 + 1 + 1 + 1, 0, none⟩) (v := .int .i32 vx) d0
       replace d1 := Kep.all g4 (a := ⟨w.heap.size + 1 + 1 + 1 + 1, 1, none⟩) (v := .int .i32 vy) d1
       replace gg := kep_next gg g4
       have zp_w4 : w.heap.size < w4.heap.size := World.block_lt_of_cell? _ _ p0
       have zq_w4 : w.heap.size + 1 < w4.heap.size := World.block_lt_of_cell? _ _ q0
       have zm_w4 : w.heap.size + 1 + 1 < w4.heap.size := World.block_lt_of_cell? _ _ m0
       have zn_w4 : w.heap.size + 1 + 1 + 1 < w4.heap.size := World.block_lt_of_cell? _ _ n0
       have zd_w4 : w.heap.size + 1 + 1 + 1 + 1 < w4.heap.size := World.block_lt_of_cell? _ _ d0))
  generalize hW : World.alloc (World.alloc w4 _) _ = W5
  replace p0 : W5.cell? ⟨w.heap.size, 0, none⟩ = some (.int .i32 px) := by rw [← hW]; exact (Kep.all (kep_more (kep_more (Kep.refl _ _) _) _) p0)
  replace p1 : W5.cell? ⟨w.heap.size, 1, none⟩ = some (.int .i32 py) := by rw [← hW]; exact (Kep.all (kep_more (kep_more (Kep.refl _ _) _) _) p1)
  replace q0 : W5.cell? ⟨w.heap.size + 1, 0, none⟩ = some (.int .i32 qx) := by rw [← hW]; exact (Kep.all (kep_more (kep_more (Kep.refl _ _) _) _) q0)
  replace q1 : W5.cell? ⟨w.heap.size + 1, 1, none⟩ = some (.int .i32 qy) := by rw [← hW]; exact (Kep.all (kep_more (kep_more (Kep.refl _ _) _) _) q1)
  replace m0 : W5.cell? ⟨w.heap.size + 1 + 1, 0, none⟩ = some (.int .i32 mx) := by rw [← hW]; exact (Kep.all (kep_more (kep_more (Kep.refl _ _) _) _) m0)
  replace m1 : W5.cell? ⟨w.heap.size + 1 + 1, 1, none⟩ = some (.int .i32 my) := by rw [← hW]; exact (Kep.all (kep_more (kep_more (Kep.refl _ _) _) _) m1)
  replace n0 : W5.cell? ⟨w.heap.size + 1 + 1 + 1, 0, none⟩ = some (.int .i32 nx) := by rw [← hW]; exact (Kep.all (kep_more (kep_more (Kep.refl _ _) _) _) n0)
  replace n1 : W5.cell? ⟨w.heap.size + 1 + 1 + 1, 1, none⟩ = some (.int .i32 ny) := by rw [← hW]; exact (Kep.all (kep_more (kep_more (Kep.refl _ _) _) _) n1)
  replace d0 : W5.cell? ⟨w.heap.size + 1 + 1 + 1 + 1, 0, none⟩ = some (.int .i32 vx) := by rw [← hW]; exact (Kep.all (kep_more (kep_more (Kep.refl _ _) _) _) d0)
  replace d1 : W5.cell? ⟨w.heap.size + 1 + 1 + 1 + 1, 1, none⟩ = some (.int .i32 vy) := by rw [← hW]; exact (Kep.all (kep_more (kep_more (Kep.refl _ _) _) _) d1)
  have a0 : W5.cell? ⟨w4.heap.size, 0, none⟩ = some (.int .i32 xa) := by
    rw [← hW]
    (repeat (first | rw [World.cell?_drew] | rw [World.cell?_alloc_past _ _ _ (by first | (simp; done) | (simp; omega))])); rw [World.cell?_alloc_at _ _ _ _ (by simp)]; rfl
  have a1 : W5.cell? ⟨w4.heap.size, 1, none⟩ = some (.int .i32 xb) := by
    rw [← hW]
    (repeat (first | rw [World.cell?_drew] | rw [World.cell?_alloc_past _ _ _ (by first | (simp; done) | (simp; omega))])); rw [World.cell?_alloc_at _ _ _ _ (by simp)]; rfl
  have b0 : W5.cell? ⟨w4.heap.size + 1, 0, none⟩ = some (.int .i32 xc) := by
    rw [← hW]
    (repeat (first | rw [World.cell?_drew] | rw [World.cell?_alloc_past _ _ _ (by first | (simp; done) | (simp; omega))])); rw [World.cell?_alloc_at _ _ _ _ (by simp)]; rfl
  have b1 : W5.cell? ⟨w4.heap.size + 1, 1, none⟩ = some (.int .i32 xd) := by
    rw [← hW]
    (repeat (first | rw [World.cell?_drew] | rw [World.cell?_alloc_past _ _ _ (by first | (simp; done) | (simp; omega))])); rw [World.cell?_alloc_at _ _ _ _ (by simp)]; rfl
  replace gg : Kep w.heap.size w W5 := by rw [← hW]; exact (kep_more (kep_more gg _) _)
  clear hW
  have zp_W5 : w.heap.size < W5.heap.size := World.block_lt_of_cell? _ _ p0
  have zq_W5 : w.heap.size + 1 < W5.heap.size := World.block_lt_of_cell? _ _ q0
  have zm_W5 : w.heap.size + 1 + 1 < W5.heap.size := World.block_lt_of_cell? _ _ m0
  have zn_W5 : w.heap.size + 1 + 1 + 1 < W5.heap.size := World.block_lt_of_cell? _ _ n0
  have zd_W5 : w.heap.size + 1 + 1 + 1 + 1 < W5.heap.size := World.block_lt_of_cell? _ _ d0
  have za_W5 : w4.heap.size < W5.heap.size := World.block_lt_of_cell? _ _ a0
  have zb_W5 : w4.heap.size + 1 < W5.heap.size := World.block_lt_of_cell? _ _ b0
  go_cut [13, 14] (fun s13 s14 wx => ∃ u1 u2 : Nat, s13 = .pointer (some ⟨u1, 0, none⟩) ∧ s14 = .pointer (some ⟨u2, 0, none⟩) ∧ wx.cell? ⟨w.heap.size, 0, none⟩ = some (.int .i32 px) ∧ wx.cell? ⟨w.heap.size, 1, none⟩ = some (.int .i32 py) ∧ wx.cell? ⟨w.heap.size + 1, 0, none⟩ = some (.int .i32 qx) ∧ wx.cell? ⟨w.heap.size + 1, 1, none⟩ = some (.int .i32 qy) ∧ wx.cell? ⟨w.heap.size + 1 + 1, 0, none⟩ = some (.int .i32 mx) ∧ wx.cell? ⟨w.heap.size + 1 + 1, 1, none⟩ = some (.int .i32 my) ∧ wx.cell? ⟨w.heap.size + 1 + 1 + 1, 0, none⟩ = some (.int .i32 nx) ∧ wx.cell? ⟨w.heap.size + 1 + 1 + 1, 1, none⟩ = some (.int .i32 ny) ∧ wx.cell? ⟨w.heap.size + 1 + 1 + 1 + 1, 0, none⟩ = some (.int .i32 vx) ∧ wx.cell? ⟨w.heap.size + 1 + 1 + 1 + 1, 1, none⟩ = some (.int .i32 vy) ∧ wx.cell? ⟨w4.heap.size, 0, none⟩ = some (.int .i32 xa) ∧ wx.cell? ⟨w4.heap.size, 1, none⟩ = some (.int .i32 xb) ∧ wx.cell? ⟨w4.heap.size + 1, 0, none⟩ = some (.int .i32 xc) ∧ wx.cell? ⟨w4.heap.size + 1, 1, none⟩ = some (.int .i32 xd) ∧ wx.cell? ⟨u1, 0, none⟩ = some (.int .i32 ya) ∧ wx.cell? ⟨u1, 1, none⟩ = some (.int .i32 yb) ∧ wx.cell? ⟨u2, 0, none⟩ = some (.int .i32 yc) ∧ wx.cell? ⟨u2, 1, none⟩ = some (.int .i32 yd) ∧ Kep w.heap.size w wx)
  case first =>
    refine wp_region_noPanic ?_
    obtain ⟨S, So, Sk, Ss⟩ : ∃ S : World → Prop, (∀ w', S w' ↔ (w'.cell? ⟨w.heap.size, 0, none⟩ = some (.int .i32 px) ∧ w'.cell? ⟨w.heap.size, 1, none⟩ = some (.int .i32 py) ∧ w'.cell? ⟨w.heap.size + 1, 0, none⟩ = some (.int .i32 qx) ∧ w'.cell? ⟨w.heap.size + 1, 1, none⟩ = some (.int .i32 qy) ∧ w'.cell? ⟨w.heap.size + 1 + 1, 0, none⟩ = some (.int .i32 mx) ∧ w'.cell? ⟨w.heap.size + 1 + 1, 1, none⟩ = some (.int .i32 my) ∧ w'.cell? ⟨w.heap.size + 1 + 1 + 1, 0, none⟩ = some (.int .i32 nx) ∧ w'.cell? ⟨w.heap.size + 1 + 1 + 1, 1, none⟩ = some (.int .i32 ny) ∧ w'.cell? ⟨w.heap.size + 1 + 1 + 1 + 1, 0, none⟩ = some (.int .i32 vx) ∧ w'.cell? ⟨w.heap.size + 1 + 1 + 1 + 1, 1, none⟩ = some (.int .i32 vy) ∧ w'.cell? ⟨w4.heap.size, 0, none⟩ = some (.int .i32 xa) ∧ w'.cell? ⟨w4.heap.size, 1, none⟩ = some (.int .i32 xb) ∧ w'.cell? ⟨w4.heap.size + 1, 0, none⟩ = some (.int .i32 xc) ∧ w'.cell? ⟨w4.heap.size + 1, 1, none⟩ = some (.int .i32 xd) ∧ Kep w.heap.size w w')) ∧ (∀ a b, S a → Kep a.heap.size a b → S b) ∧ (∀ a (k j : Nat) v, S a → W5.heap.size ≤ k → S (a.setCell ⟨k, j, none⟩ v)) := by
      refine ⟨fun w' => w'.cell? ⟨w.heap.size, 0, none⟩ = some (.int .i32 px) ∧ w'.cell? ⟨w.heap.size, 1, none⟩ = some (.int .i32 py) ∧ w'.cell? ⟨w.heap.size + 1, 0, none⟩ = some (.int .i32 qx) ∧ w'.cell? ⟨w.heap.size + 1, 1, none⟩ = some (.int .i32 qy) ∧ w'.cell? ⟨w.heap.size + 1 + 1, 0, none⟩ = some (.int .i32 mx) ∧ w'.cell? ⟨w.heap.size + 1 + 1, 1, none⟩ = some (.int .i32 my) ∧ w'.cell? ⟨w.heap.size + 1 + 1 + 1, 0, none⟩ = some (.int .i32 nx) ∧ w'.cell? ⟨w.heap.size + 1 + 1 + 1, 1, none⟩ = some (.int .i32 ny) ∧ w'.cell? ⟨w.heap.size + 1 + 1 + 1 + 1, 0, none⟩ = some (.int .i32 vx) ∧ w'.cell? ⟨w.heap.size + 1 + 1 + 1 + 1, 1, none⟩ = some (.int .i32 vy) ∧ w'.cell? ⟨w4.heap.size, 0, none⟩ = some (.int .i32 xa) ∧ w'.cell? ⟨w4.heap.size, 1, none⟩ = some (.int .i32 xb) ∧ w'.cell? ⟨w4.heap.size + 1, 0, none⟩ = some (.int .i32 xc) ∧ w'.cell? ⟨w4.heap.size + 1, 1, none⟩ = some (.int .i32 xd) ∧ Kep w.heap.size w w', fun _ => Iff.rfl, ?_, ?_⟩
      · intro a b h g
        go_split_ands
        exact ⟨Kep.all g (by assumption), Kep.all g (by assumption), Kep.all g (by assumption), Kep.all g (by assumption), Kep.all g (by assumption), Kep.all g (by assumption), Kep.all g (by assumption), Kep.all g (by assumption), Kep.all g (by assumption), Kep.all g (by assumption), Kep.all g (by assumption), Kep.all g (by assumption), Kep.all g (by assumption), Kep.all g (by assumption), kep_next (by assumption) g⟩
      · intro a k j v h l
        go_split_ands
        exact ⟨sset_far (by assumption) (by dsimp only; omega), sset_far (by assumption) (by dsimp only; omega), sset_far (by assumption) (by dsimp only; omega), sset_far (by assumption) (by dsimp only; omega), sset_far (by assumption) (by dsimp only; omega), sset_far (by assumption) (by dsimp only; omega), sset_far (by assumption) (by dsimp only; omega), sset_far (by assumption) (by dsimp only; omega), sset_far (by assumption) (by dsimp only; omega), sset_far (by assumption) (by dsimp only; omega), sset_far (by assumption) (by dsimp only; omega), sset_far (by assumption) (by dsimp only; omega), sset_far (by assumption) (by dsimp only; omega), sset_far (by assumption) (by dsimp only; omega), kep_set (by assumption) (by have := gg.size; dsimp only; omega) _⟩
    refine wp_region_held_drew (S := S) (by kernel_rfl) ((So _).2 (⟨by rw [World.cell?_drew]; exact p0, by rw [World.cell?_drew]; exact p1, by rw [World.cell?_drew]; exact q0, by rw [World.cell?_drew]; exact q1, by rw [World.cell?_drew]; exact m0, by rw [World.cell?_drew]; exact m1, by rw [World.cell?_drew]; exact n0, by rw [World.cell?_drew]; exact n1, by rw [World.cell?_drew]; exact d0, by rw [World.cell?_drew]; exact d1, by rw [World.cell?_drew]; exact a0, by rw [World.cell?_drew]; exact a1, by rw [World.cell?_drew]; exact b0, by rw [World.cell?_drew]; exact b1, kep_drew gg⟩)) (fun hH => ?_)
    clear p0 p1 q0 q1 m0 m1 n0 n1 d0 d1 a0 a1 b0 b1 gg
    clear v1 v2 k0 k1 k2 k3 AW RR R2 C1 M5 M6 zp_w1 zq_w1 zm_w1 zn_w1 zd_w1 zp_w2 zq_w2 zm_w2 zn_w2 zd_w2 zp_v3_12 zq_v3_12 zm_v3_12 zn_v3_12 zd_v3_12 zp_w4 zq_w4 zm_w4 zn_w4 zd_w4 zp_W5 zq_W5 zm_W5 zn_W5 zd_W5 za_W5 zb_W5
    clear g4 g2 g1
    have kz : Kep W5.heap.size W5 (World.drew W5) := kep_drew (Kep.refl _ _)
    generalize World.drew W5 = Y at hH kz ⊢
    have fin : ∀ {W : World} {b16 b17 : Nat}, S W → (W.cell? ⟨b16, 0, none⟩ = some (.int .i32 ya) ∧ W.cell? ⟨b16, 1, none⟩ = some (.int .i32 yb)) → (W.cell? ⟨b17, 0, none⟩ = some (.int .i32 yc) ∧ W.cell? ⟨b17, 1, none⟩ = some (.int .i32 yd)) → ∃ u1 u2 : Nat, Value.pointer (some ⟨b16, 0, none⟩) = .pointer (some ⟨u1, 0, none⟩) ∧ Value.pointer (some ⟨b17, 0, none⟩) = .pointer (some ⟨u2, 0, none⟩) ∧ W.cell? ⟨w.heap.size, 0, none⟩ = some (.int .i32 px) ∧ W.cell? ⟨w.heap.size, 1, none⟩ = some (.int .i32 py) ∧ W.cell? ⟨w.heap.size + 1, 0, none⟩ = some (.int .i32 qx) ∧ W.cell? ⟨w.heap.size + 1, 1, none⟩ = some (.int .i32 qy) ∧ W.cell? ⟨w.heap.size + 1 + 1, 0, none⟩ = some (.int .i32 mx) ∧ W.cell? ⟨w.heap.size + 1 + 1, 1, none⟩ = some (.int .i32 my) ∧ W.cell? ⟨w.heap.size + 1 + 1 + 1, 0, none⟩ = some (.int .i32 nx) ∧ W.cell? ⟨w.heap.size + 1 + 1 + 1, 1, none⟩ = some (.int .i32 ny) ∧ W.cell? ⟨w.heap.size + 1 + 1 + 1 + 1, 0, none⟩ = some (.int .i32 vx) ∧ W.cell? ⟨w.heap.size + 1 + 1 + 1 + 1, 1, none⟩ = some (.int .i32 vy) ∧ W.cell? ⟨w4.heap.size, 0, none⟩ = some (.int .i32 xa) ∧ W.cell? ⟨w4.heap.size, 1, none⟩ = some (.int .i32 xb) ∧ W.cell? ⟨w4.heap.size + 1, 0, none⟩ = some (.int .i32 xc) ∧ W.cell? ⟨w4.heap.size + 1, 1, none⟩ = some (.int .i32 xd) ∧ W.cell? ⟨u1, 0, none⟩ = some (.int .i32 ya) ∧ W.cell? ⟨u1, 1, none⟩ = some (.int .i32 yb) ∧ W.cell? ⟨u2, 0, none⟩ = some (.int .i32 yc) ∧ W.cell? ⟨u2, 1, none⟩ = some (.int .i32 yd) ∧ Kep w.heap.size w W := by
      intro W b16 b17 h x y
      replace h := (So _).1 h
      go_split_ands
      exact ⟨b16, b17, rfl, rfl, by assumption, by assumption, by assumption, by assumption, by assumption, by assumption, by assumption, by assumption, by assumption, by assumption, by assumption, by assumption, by assumption, by assumption, by assumption, by assumption, by assumption, by assumption, by assumption⟩
    refine wpAnyH_take (i := 0) (oi := { dst := some 69, op := Op.load 23 (Operand.tmp 5), type := _, pos := _, after := _, guard := none }) (v := ?_) rfl (by kernel_rfl) (by kernel_rfl) (by kernel_rfl) (fun _ _ _ h => h) (Or.inl ⟨by rfl, ?_⟩) hH ?_
    rotate_left
    · (intro w hSw; replace hSw := (So _).1 hSw; go_simp; (try with_reducible rfl))
    try simp only [Act.put, List.setIfInBounds_toArray, List.set_cons_zero, List.set_cons_succ]
    refine wpAnyH_take (i := 1) (oi := { dst := some 70, op := Op.load 23 (Operand.tmp 9), type := _, pos := _, after := _, guard := none }) (v := ?_) rfl (by kernel_rfl) (by kernel_rfl) (by kernel_rfl) (fun _ _ _ h => h) (Or.inl ⟨by rfl, ?_⟩) hH ?_
    rotate_left
    · (intro w hSw; replace hSw := (So _).1 hSw; go_simp; (try with_reducible rfl))
    try simp only [Act.put, List.setIfInBounds_toArray, List.set_cons_zero, List.set_cons_succ]
    refine wpAnyH_take (i := 3) (oi := { dst := some 72, op := Op.load 23 (Operand.tmp 6), type := _, pos := _, after := _, guard := none }) (v := ?_) rfl (by kernel_rfl) (by kernel_rfl) (by kernel_rfl) (fun _ _ _ h => h) (Or.inl ⟨by rfl, ?_⟩) hH ?_
    rotate_left
    · (intro w hSw; replace hSw := (So _).1 hSw; go_simp; (try with_reducible rfl))
    try simp only [Act.put, List.setIfInBounds_toArray, List.set_cons_zero, List.set_cons_succ]
    refine wpAnyH_take (i := 4) (oi := { dst := some 73, op := Op.load 23 (Operand.tmp 9), type := _, pos := _, after := _, guard := none }) (v := ?_) rfl (by kernel_rfl) (by kernel_rfl) (by kernel_rfl) (fun _ _ _ h => h) (Or.inl ⟨by rfl, ?_⟩) hH ?_
    rotate_left
    · (intro w hSw; replace hSw := (So _).1 hSw; go_simp; (try with_reducible rfl))
    try simp only [Act.put, List.setIfInBounds_toArray, List.set_cons_zero, List.set_cons_succ]
    refine wpAnyH_take (i := 6) (oi := { dst := some 75, op := Op.load 23 (Operand.tmp 7), type := _, pos := _, after := _, guard := none }) (v := ?_) rfl (by kernel_rfl) (by kernel_rfl) (by kernel_rfl) (fun _ _ _ h => h) (Or.inl ⟨by rfl, ?_⟩) hH ?_
    rotate_left
    · (intro w hSw; replace hSw := (So _).1 hSw; go_simp; (try with_reducible rfl))
    try simp only [Act.put, List.setIfInBounds_toArray, List.set_cons_zero, List.set_cons_succ]
    refine wpAnyH_take (i := 7) (oi := { dst := some 76, op := Op.load 23 (Operand.tmp 9), type := _, pos := _, after := _, guard := none }) (v := ?_) rfl (by kernel_rfl) (by kernel_rfl) (by kernel_rfl) (fun _ _ _ h => h) (Or.inl ⟨by rfl, ?_⟩) hH ?_
    rotate_left
    · (intro w hSw; replace hSw := (So _).1 hSw; go_simp; (try with_reducible rfl))
    try simp only [Act.put, List.setIfInBounds_toArray, List.set_cons_zero, List.set_cons_succ]
    refine wpAnyH_take (i := 9) (oi := { dst := some 78, op := Op.load 23 (Operand.tmp 8), type := _, pos := _, after := _, guard := none }) (v := ?_) rfl (by kernel_rfl) (by kernel_rfl) (by kernel_rfl) (fun _ _ _ h => h) (Or.inl ⟨by rfl, ?_⟩) hH ?_
    rotate_left
    · (intro w hSw; replace hSw := (So _).1 hSw; go_simp; (try with_reducible rfl))
    try simp only [Act.put, List.setIfInBounds_toArray, List.set_cons_zero, List.set_cons_succ]
    refine wpAnyH_take (i := 10) (oi := { dst := some 79, op := Op.load 23 (Operand.tmp 9), type := _, pos := _, after := _, guard := none }) (v := ?_) rfl (by kernel_rfl) (by kernel_rfl) (by kernel_rfl) (fun _ _ _ h => h) (Or.inl ⟨by rfl, ?_⟩) hH ?_
    rotate_left
    · (intro w hSw; replace hSw := (So _).1 hSw; go_simp; (try with_reducible rfl))
    try simp only [Act.put, List.setIfInBounds_toArray, List.set_cons_zero, List.set_cons_succ]
    all_goals first
      | (refine wpAnyH_ready (rs := [2, 16, 17]) (by decide +kernel) (by simp) ?_
         refine AllReadyH.cons (o := { dst := some 71, op := Op.call { callee := Callee.value (Operand.func 15), args := #[Operand.tmp 69, Operand.tmp 70], argTypes := #[23, 23] }, type := _, pos := _, after := _, guard := none }) rfl (fun K hK => ?_) (AllReadyH.cons (o := { dst := some 13, op := Op.alloc 23, type := _, pos := _, after := _, guard := none }) rfl (fun K hK => ?_) (AllReadyH.cons (o := { dst := some 14, op := Op.alloc 23, type := _, pos := _, after := _, guard := none }) rfl (fun K hK => ?_) AllReadyH.nil))
         go_simp
         (with_reducible refine (M1.out _).mono ?_); rintro e Y ⟨rfl, g⟩
         refine hK.out _ _ (Sk _ _ hH g) (fun hH2 => ?_)
         clear hK K hH; have hH := hH2; clear hH2
         replace kz := kep_next kz g
         clear g
         try simp only [Act.put, List.setIfInBounds_toArray, List.set_cons_zero, List.set_cons_succ]
         rotate_left
         have l16 := kz.size
         have nb16 := NB.new Y 23
         replace kz := kep_more kz (.cells #[.int .i32 0, .int .i32 0] 23)
         replace hH := Sk _ _ hH (kep_more (Kep.refl _ _) (.cells #[.int .i32 0, .int .i32 0] 23))
         go_simp
         refine hK.out _ _ hH (fun hH2 => ?_)
         clear hK K hH; have hH := hH2; clear hH2
         try simp only [Act.put, List.setIfInBounds_toArray, List.set_cons_zero, List.set_cons_succ]
         generalize Y.heap.size = b16 at *
         generalize World.alloc Y (.cells #[.int .i32 0, .int .i32 0] 23) = Y at *
         rotate_left
         have l17 := kz.size
         have nb17 := NB.new Y 23
         replace kz := kep_more kz (.cells #[.int .i32 0, .int .i32 0] 23)
         replace hH := Sk _ _ hH (kep_more (Kep.refl _ _) (.cells #[.int .i32 0, .int .i32 0] 23))
         go_simp
         refine hK.out _ _ hH (fun hH2 => ?_)
         clear hK K hH; have hH := hH2; clear hH2
         try simp only [Act.put, List.setIfInBounds_toArray, List.set_cons_zero, List.set_cons_succ]
         generalize Y.heap.size = b17 at *
         generalize World.alloc Y (.cells #[.int .i32 0, .int .i32 0] 23) = Y at *
         rotate_left)
    all_goals first
      | (refine wpAnyH_ready (rs := [5, 16, 17]) (by decide +kernel) (by simp) ?_
         refine AllReadyH.cons (o := { dst := some 74, op := Op.call { callee := Callee.value (Operand.func 15), args := #[Operand.tmp 72, Operand.tmp 73], argTypes := #[23, 23] }, type := _, pos := _, after := _, guard := none }) rfl (fun K hK => ?_) (AllReadyH.cons (o := { dst := some 13, op := Op.alloc 23, type := _, pos := _, after := _, guard := none }) rfl (fun K hK => ?_) (AllReadyH.cons (o := { dst := some 14, op := Op.alloc 23, type := _, pos := _, after := _, guard := none }) rfl (fun K hK => ?_) AllReadyH.nil))
         go_simp
         (with_reducible refine (M2.out _).mono ?_); rintro e Y ⟨rfl, g⟩
         refine hK.out _ _ (Sk _ _ hH g) (fun hH2 => ?_)
         clear hK K hH; have hH := hH2; clear hH2
         replace kz := kep_next kz g
         clear g
         try simp only [Act.put, List.setIfInBounds_toArray, List.set_cons_zero, List.set_cons_succ]
         rotate_left
         have l16 := kz.size
         have nb16 := NB.new Y 23
         replace kz := kep_more kz (.cells #[.int .i32 0, .int .i32 0] 23)
         replace hH := Sk _ _ hH (kep_more (Kep.refl _ _) (.cells #[.int .i32 0, .int .i32 0] 23))
         go_simp
         refine hK.out _ _ hH (fun hH2 => ?_)
         clear hK K hH; have hH := hH2; clear hH2
         try simp only [Act.put, List.setIfInBounds_toArray, List.set_cons_zero, List.set_cons_succ]
         generalize Y.heap.size = b16 at *
         generalize World.alloc Y (.cells #[.int .i32 0, .int .i32 0] 23) = Y at *
         rotate_left
         have l17 := kz.size
         have nb17 := NB.new Y 23
         replace kz := kep_more kz (.cells #[.int .i32 0, .int .i32 0] 23)
         replace hH := Sk _ _ hH (kep_more (Kep.refl _ _) (.cells #[.int .i32 0, .int .i32 0] 23))
         go_simp
         refine hK.out _ _ hH (fun hH2 => ?_)
         clear hK K hH; have hH := hH2; clear hH2
         try simp only [Act.put, List.setIfInBounds_toArray, List.set_cons_zero, List.set_cons_succ]
         generalize Y.heap.size = b17 at *
         generalize World.alloc Y (.cells #[.int .i32 0, .int .i32 0] 23) = Y at *
         rotate_left)
      | (refine wpAnyH_ready (rs := [2, 17]) (by decide +kernel) (by simp) ?_
         refine AllReadyH.cons (o := { dst := some 71, op := Op.call { callee := Callee.value (Operand.func 15), args := #[Operand.tmp 69, Operand.tmp 70], argTypes := #[23, 23] }, type := _, pos := _, after := _, guard := none }) rfl (fun K hK => ?_) (AllReadyH.cons (o := { dst := some 14, op := Op.alloc 23, type := _, pos := _, after := _, guard := none }) rfl (fun K hK => ?_) AllReadyH.nil)
         go_simp
         (with_reducible refine (M1.out _).mono ?_); rintro e Y ⟨rfl, g⟩
         refine hK.out _ _ (Sk _ _ hH g) (fun hH2 => ?_)
         clear hK K hH; have hH := hH2; clear hH2
         replace nb16 := nb16.kep g
         replace kz := kep_next kz g
         clear g
         try simp only [Act.put, List.setIfInBounds_toArray, List.set_cons_zero, List.set_cons_succ]
         rotate_left
         have l17 := kz.size
         have nb17 := NB.new Y 23
         have m16 := nb16.lt
         replace nb16 := nb16.kep (kep_more (Kep.refl _ _) (.cells #[.int .i32 0, .int .i32 0] 23))
         replace kz := kep_more kz (.cells #[.int .i32 0, .int .i32 0] 23)
         replace hH := Sk _ _ hH (kep_more (Kep.refl _ _) (.cells #[.int .i32 0, .int .i32 0] 23))
         go_simp
         refine hK.out _ _ hH (fun hH2 => ?_)
         clear hK K hH; have hH := hH2; clear hH2
         try simp only [Act.put, List.setIfInBounds_toArray, List.set_cons_zero, List.set_cons_succ]
         generalize Y.heap.size = b17 at *
         generalize World.alloc Y (.cells #[.int .i32 0, .int .i32 0] 23) = Y at *
         rotate_left)
      | (refine wpAnyH_ready (rs := [2, 16]) (by decide +kernel) (by simp) ?_
         refine AllReadyH.cons (o := { dst := some 71, op := Op.call { callee := Callee.value (Operand.func 15), args := #[Operand.tmp 69, Operand.tmp 70], argTypes := #[23, 23] }, type := _, pos := _, after := _, guard := none }) rfl (fun K hK => ?_) (AllReadyH.cons (o := { dst := some 13, op := Op.alloc 23, type := _, pos := _, after := _, guard := none }) rfl (fun K hK => ?_) AllReadyH.nil)
         go_simp
         (with_reducible refine (M1.out _).mono ?_); rintro e Y ⟨rfl, g⟩
         refine hK.out _ _ (Sk _ _ hH g) (fun hH2 => ?_)
         clear hK K hH; have hH := hH2; clear hH2
         replace nb17 := nb17.kep g
         replace kz := kep_next kz g
         clear g
         try simp only [Act.put, List.setIfInBounds_toArray, List.set_cons_zero, List.set_cons_succ]
         rotate_left
         have l16 := kz.size
         have nb16 := NB.new Y 23
         have m17 := nb17.lt
         replace nb17 := nb17.kep (kep_more (Kep.refl _ _) (.cells #[.int .i32 0, .int .i32 0] 23))
         replace kz := kep_more kz (.cells #[.int .i32 0, .int .i32 0] 23)
         replace hH := Sk _ _ hH (kep_more (Kep.refl _ _) (.cells #[.int .i32 0, .int .i32 0] 23))
         go_simp
         refine hK.out _ _ hH (fun hH2 => ?_)
         clear hK K hH; have hH := hH2; clear hH2
         try simp only [Act.put, List.setIfInBounds_toArray, List.set_cons_zero, List.set_cons_succ]
         generalize Y.heap.size = b16 at *
         generalize World.alloc Y (.cells #[.int .i32 0, .int .i32 0] 23) = Y at *
         rotate_left)
    all_goals first
      | (refine wpAnyH_ready (rs := [8, 16, 17]) (by decide +kernel) (by simp) ?_
         refine AllReadyH.cons (o := { dst := some 77, op := Op.call { callee := Callee.value (Operand.func 15), args := #[Operand.tmp 75, Operand.tmp 76], argTypes := #[23, 23] }, type := _, pos := _, after := _, guard := none }) rfl (fun K hK => ?_) (AllReadyH.cons (o := { dst := some 13, op := Op.alloc 23, type := _, pos := _, after := _, guard := none }) rfl (fun K hK => ?_) (AllReadyH.cons (o := { dst := some 14, op := Op.alloc 23, type := _, pos := _, after := _, guard := none }) rfl (fun K hK => ?_) AllReadyH.nil))
         go_simp
         (with_reducible refine (M3.out _).mono ?_); rintro e Y ⟨rfl, g⟩
         refine hK.out _ _ (Sk _ _ hH g) (fun hH2 => ?_)
         clear hK K hH; have hH := hH2; clear hH2
         replace kz := kep_next kz g
         clear g
         try simp only [Act.put, List.setIfInBounds_toArray, List.set_cons_zero, List.set_cons_succ]
         rotate_left
         have l16 := kz.size
         have nb16 := NB.new Y 23
         replace kz := kep_more kz (.cells #[.int .i32 0, .int .i32 0] 23)
         replace hH := Sk _ _ hH (kep_more (Kep.refl _ _) (.cells #[.int .i32 0, .int .i32 0] 23))
         go_simp
         refine hK.out _ _ hH (fun hH2 => ?_)
         clear hK K hH; have hH := hH2; clear hH2
         try simp only [Act.put, List.setIfInBounds_toArray, List.set_cons_zero, List.set_cons_succ]
         generalize Y.heap.size = b16 at *
         generalize World.alloc Y (.cells #[.int .i32 0, .int .i32 0] 23) = Y at *
         rotate_left
         have l17 := kz.size
         have nb17 := NB.new Y 23
         replace kz := kep_more kz (.cells #[.int .i32 0, .int .i32 0] 23)
         replace hH := Sk _ _ hH (kep_more (Kep.refl _ _) (.cells #[.int .i32 0, .int .i32 0] 23))
         go_simp
         refine hK.out _ _ hH (fun hH2 => ?_)
         clear hK K hH; have hH := hH2; clear hH2
         try simp only [Act.put, List.setIfInBounds_toArray, List.set_cons_zero, List.set_cons_succ]
         generalize Y.heap.size = b17 at *
         generalize World.alloc Y (.cells #[.int .i32 0, .int .i32 0] 23) = Y at *
         rotate_left)
      | (refine wpAnyH_ready (rs := [5, 17]) (by decide +kernel) (by simp) ?_
         refine AllReadyH.cons (o := { dst := some 74, op := Op.call { callee := Callee.value (Operand.func 15), args := #[Operand.tmp 72, Operand.tmp 73], argTypes := #[23, 23] }, type := _, pos := _, after := _, guard := none }) rfl (fun K hK => ?_) (AllReadyH.cons (o := { dst := some 14, op := Op.alloc 23, type := _, pos := _, after := _, guard := none }) rfl (fun K hK => ?_) AllReadyH.nil)
         go_simp
         (with_reducible refine (M2.out _).mono ?_); rintro e Y ⟨rfl, g⟩
         refine hK.out _ _ (Sk _ _ hH g) (fun hH2 => ?_)
         clear hK K hH; have hH := hH2; clear hH2
         replace nb16 := nb16.kep g
         replace kz := kep_next kz g
         clear g
         try simp only [Act.put, List.setIfInBounds_toArray, List.set_cons_zero, List.set_cons_succ]
         rotate_left
         have l17 := kz.size
         have nb17 := NB.new Y 23
         have m16 := nb16.lt
         replace nb16 := nb16.kep (kep_more (Kep.refl _ _) (.cells #[.int .i32 0, .int .i32 0] 23))
         replace kz := kep_more kz (.cells #[.int .i32 0, .int .i32 0] 23)
         replace hH := Sk _ _ hH (kep_more (Kep.refl _ _) (.cells #[.int .i32 0, .int .i32 0] 23))
         go_simp
         refine hK.out _ _ hH (fun hH2 => ?_)
         clear hK K hH; have hH := hH2; clear hH2
         try simp only [Act.put, List.setIfInBounds_toArray, List.set_cons_zero, List.set_cons_succ]
         generalize Y.heap.size = b17 at *
         generalize World.alloc Y (.cells #[.int .i32 0, .int .i32 0] 23) = Y at *
         rotate_left)
      | (refine wpAnyH_ready (rs := [5, 16]) (by decide +kernel) (by simp) ?_
         refine AllReadyH.cons (o := { dst := some 74, op := Op.call { callee := Callee.value (Operand.func 15), args := #[Operand.tmp 72, Operand.tmp 73], argTypes := #[23, 23] }, type := _, pos := _, after := _, guard := none }) rfl (fun K hK => ?_) (AllReadyH.cons (o := { dst := some 13, op := Op.alloc 23, type := _, pos := _, after := _, guard := none }) rfl (fun K hK => ?_) AllReadyH.nil)
         go_simp
         (with_reducible refine (M2.out _).mono ?_); rintro e Y ⟨rfl, g⟩
         refine hK.out _ _ (Sk _ _ hH g) (fun hH2 => ?_)
         clear hK K hH; have hH := hH2; clear hH2
         replace nb17 := nb17.kep g
         replace kz := kep_next kz g
         clear g
         try simp only [Act.put, List.setIfInBounds_toArray, List.set_cons_zero, List.set_cons_succ]
         rotate_left
         have l16 := kz.size
         have nb16 := NB.new Y 23
         have m17 := nb17.lt
         replace nb17 := nb17.kep (kep_more (Kep.refl _ _) (.cells #[.int .i32 0, .int .i32 0] 23))
         replace kz := kep_more kz (.cells #[.int .i32 0, .int .i32 0] 23)
         replace hH := Sk _ _ hH (kep_more (Kep.refl _ _) (.cells #[.int .i32 0, .int .i32 0] 23))
         go_simp
         refine hK.out _ _ hH (fun hH2 => ?_)
         clear hK K hH; have hH := hH2; clear hH2
         try simp only [Act.put, List.setIfInBounds_toArray, List.set_cons_zero, List.set_cons_succ]
         generalize Y.heap.size = b16 at *
         generalize World.alloc Y (.cells #[.int .i32 0, .int .i32 0] 23) = Y at *
         rotate_left)
      | (refine wpAnyH_ready (rs := [2]) (by decide +kernel) (by simp) ?_
         refine AllReadyH.cons (o := { dst := some 71, op := Op.call { callee := Callee.value (Operand.func 15), args := #[Operand.tmp 69, Operand.tmp 70], argTypes := #[23, 23] }, type := _, pos := _, after := _, guard := none }) rfl (fun K hK => ?_) AllReadyH.nil
         go_simp
         (with_reducible refine (M1.out _).mono ?_); rintro e Y ⟨rfl, g⟩
         refine hK.out _ _ (Sk _ _ hH g) (fun hH2 => ?_)
         clear hK K hH; have hH := hH2; clear hH2
         replace nb16 := nb16.kep g
         replace nb17 := nb17.kep g
         replace kz := kep_next kz g
         clear g
         try simp only [Act.put, List.setIfInBounds_toArray, List.set_cons_zero, List.set_cons_succ])
    all_goals first
      | (refine wpAnyH_ready (rs := [11, 16, 17]) (by decide +kernel) (by simp) ?_
         refine AllReadyH.cons (o := { dst := some 80, op := Op.call { callee := Callee.value (Operand.func 15), args := #[Operand.tmp 78, Operand.tmp 79], argTypes := #[23, 23] }, type := _, pos := _, after := _, guard := none }) rfl (fun K hK => ?_) (AllReadyH.cons (o := { dst := some 13, op := Op.alloc 23, type := _, pos := _, after := _, guard := none }) rfl (fun K hK => ?_) (AllReadyH.cons (o := { dst := some 14, op := Op.alloc 23, type := _, pos := _, after := _, guard := none }) rfl (fun K hK => ?_) AllReadyH.nil))
         go_simp
         (with_reducible refine (M4.out _).mono ?_); rintro e Y ⟨rfl, g⟩
         refine hK.out _ _ (Sk _ _ hH g) (fun hH2 => ?_)
         clear hK K hH; have hH := hH2; clear hH2
         replace kz := kep_next kz g
         clear g
         try simp only [Act.put, List.setIfInBounds_toArray, List.set_cons_zero, List.set_cons_succ]
         rotate_left
         have l16 := kz.size
         have nb16 := NB.new Y 23
         replace kz := kep_more kz (.cells #[.int .i32 0, .int .i32 0] 23)
         replace hH := Sk _ _ hH (kep_more (Kep.refl _ _) (.cells #[.int .i32 0, .int .i32 0] 23))
         go_simp
         refine hK.out _ _ hH (fun hH2 => ?_)
         clear hK K hH; have hH := hH2; clear hH2
         try simp only [Act.put, List.setIfInBounds_toArray, List.set_cons_zero, List.set_cons_succ]
         generalize Y.heap.size = b16 at *
         generalize World.alloc Y (.cells #[.int .i32 0, .int .i32 0] 23) = Y at *
         rotate_left
         have l17 := kz.size
         have nb17 := NB.new Y 23
         replace kz := kep_more kz (.cells #[.int .i32 0, .int .i32 0] 23)
         replace hH := Sk _ _ hH (kep_more (Kep.refl _ _) (.cells #[.int .i32 0, .int .i32 0] 23))
         go_simp
         refine hK.out _ _ hH (fun hH2 => ?_)
         clear hK K hH; have hH := hH2; clear hH2
         try simp only [Act.put, List.setIfInBounds_toArray, List.set_cons_zero, List.set_cons_succ]
         generalize Y.heap.size = b17 at *
         generalize World.alloc Y (.cells #[.int .i32 0, .int .i32 0] 23) = Y at *
         rotate_left)
      | (refine wpAnyH_ready (rs := [8, 17]) (by decide +kernel) (by simp) ?_
         refine AllReadyH.cons (o := { dst := some 77, op := Op.call { callee := Callee.value (Operand.func 15), args := #[Operand.tmp 75, Operand.tmp 76], argTypes := #[23, 23] }, type := _, pos := _, after := _, guard := none }) rfl (fun K hK => ?_) (AllReadyH.cons (o := { dst := some 14, op := Op.alloc 23, type := _, pos := _, after := _, guard := none }) rfl (fun K hK => ?_) AllReadyH.nil)
         go_simp
         (with_reducible refine (M3.out _).mono ?_); rintro e Y ⟨rfl, g⟩
         refine hK.out _ _ (Sk _ _ hH g) (fun hH2 => ?_)
         clear hK K hH; have hH := hH2; clear hH2
         replace nb16 := nb16.kep g
         replace kz := kep_next kz g
         clear g
         try simp only [Act.put, List.setIfInBounds_toArray, List.set_cons_zero, List.set_cons_succ]
         rotate_left
         have l17 := kz.size
         have nb17 := NB.new Y 23
         have m16 := nb16.lt
         replace nb16 := nb16.kep (kep_more (Kep.refl _ _) (.cells #[.int .i32 0, .int .i32 0] 23))
         replace kz := kep_more kz (.cells #[.int .i32 0, .int .i32 0] 23)
         replace hH := Sk _ _ hH (kep_more (Kep.refl _ _) (.cells #[.int .i32 0, .int .i32 0] 23))
         go_simp
         refine hK.out _ _ hH (fun hH2 => ?_)
         clear hK K hH; have hH := hH2; clear hH2
         try simp only [Act.put, List.setIfInBounds_toArray, List.set_cons_zero, List.set_cons_succ]
         generalize Y.heap.size = b17 at *
         generalize World.alloc Y (.cells #[.int .i32 0, .int .i32 0] 23) = Y at *
         rotate_left)
      | (refine wpAnyH_ready (rs := [8, 16]) (by decide +kernel) (by simp) ?_
         refine AllReadyH.cons (o := { dst := some 77, op := Op.call { callee := Callee.value (Operand.func 15), args := #[Operand.tmp 75, Operand.tmp 76], argTypes := #[23, 23] }, type := _, pos := _, after := _, guard := none }) rfl (fun K hK => ?_) (AllReadyH.cons (o := { dst := some 13, op := Op.alloc 23, type := _, pos := _, after := _, guard := none }) rfl (fun K hK => ?_) AllReadyH.nil)
         go_simp
         (with_reducible refine (M3.out _).mono ?_); rintro e Y ⟨rfl, g⟩
         refine hK.out _ _ (Sk _ _ hH g) (fun hH2 => ?_)
         clear hK K hH; have hH := hH2; clear hH2
         replace nb17 := nb17.kep g
         replace kz := kep_next kz g
         clear g
         try simp only [Act.put, List.setIfInBounds_toArray, List.set_cons_zero, List.set_cons_succ]
         rotate_left
         have l16 := kz.size
         have nb16 := NB.new Y 23
         have m17 := nb17.lt
         replace nb17 := nb17.kep (kep_more (Kep.refl _ _) (.cells #[.int .i32 0, .int .i32 0] 23))
         replace kz := kep_more kz (.cells #[.int .i32 0, .int .i32 0] 23)
         replace hH := Sk _ _ hH (kep_more (Kep.refl _ _) (.cells #[.int .i32 0, .int .i32 0] 23))
         go_simp
         refine hK.out _ _ hH (fun hH2 => ?_)
         clear hK K hH; have hH := hH2; clear hH2
         try simp only [Act.put, List.setIfInBounds_toArray, List.set_cons_zero, List.set_cons_succ]
         generalize Y.heap.size = b16 at *
         generalize World.alloc Y (.cells #[.int .i32 0, .int .i32 0] 23) = Y at *
         rotate_left)
      | (refine wpAnyH_ready (rs := [5]) (by decide +kernel) (by simp) ?_
         refine AllReadyH.cons (o := { dst := some 74, op := Op.call { callee := Callee.value (Operand.func 15), args := #[Operand.tmp 72, Operand.tmp 73], argTypes := #[23, 23] }, type := _, pos := _, after := _, guard := none }) rfl (fun K hK => ?_) AllReadyH.nil
         go_simp
         (with_reducible refine (M2.out _).mono ?_); rintro e Y ⟨rfl, g⟩
         refine hK.out _ _ (Sk _ _ hH g) (fun hH2 => ?_)
         clear hK K hH; have hH := hH2; clear hH2
         replace nb16 := nb16.kep g
         replace nb17 := nb17.kep g
         replace kz := kep_next kz g
         clear g
         try simp only [Act.put, List.setIfInBounds_toArray, List.set_cons_zero, List.set_cons_succ])
    all_goals first
      | (refine wpAnyH_ready (rs := [12, 16, 17]) (by decide +kernel) (by simp) ?_
         refine AllReadyH.cons (o := { dst := some 81, op := Op.call { callee := Callee.value (Operand.func 10), args := #[Operand.tmp 71, Operand.tmp 74, Operand.tmp 77, Operand.tmp 80], argTypes := #[23, 23, 23, 23] }, type := _, pos := _, after := _, guard := none }) rfl (fun K hK => ?_) (AllReadyH.cons (o := { dst := some 13, op := Op.alloc 23, type := _, pos := _, after := _, guard := none }) rfl (fun K hK => ?_) (AllReadyH.cons (o := { dst := some 14, op := Op.alloc 23, type := _, pos := _, after := _, guard := none }) rfl (fun K hK => ?_) AllReadyH.nil))
         go_simp
         (with_reducible refine (C2.out _).mono ?_); rintro e Y ⟨rfl, g⟩
         refine hK.out _ _ (Sk _ _ hH g) (fun hH2 => ?_)
         clear hK K hH; have hH := hH2; clear hH2
         replace kz := kep_next kz g
         clear g
         try simp only [Act.put, List.setIfInBounds_toArray, List.set_cons_zero, List.set_cons_succ]
         refine wpAnyH_take (i := 13) (oi := { dst := some 68, op := Op.move (Operand.tmp 81), type := _, pos := _, after := _, guard := none }) (v := ?_) rfl (by kernel_rfl) (by kernel_rfl) (by kernel_rfl) (fun _ _ _ h => h) (Or.inl ⟨by rfl, ?_⟩) hH ?_
         rotate_left
         · (intro w hSw; go_simp; (try with_reducible rfl))
         try simp only [Act.put, List.setIfInBounds_toArray, List.set_cons_zero, List.set_cons_succ]
         refine wpAnyH_take (i := 14) (oi := { dst := some 82, op := Op.extract (Operand.tmp 68) 0, type := _, pos := _, after := _, guard := none }) (v := ?_) rfl (by kernel_rfl) (by kernel_rfl) (by kernel_rfl) (fun _ _ _ h => h) (Or.inl ⟨by rfl, ?_⟩) hH ?_
         rotate_left
         · (intro w hSw; go_simp; (try with_reducible rfl))
         try simp only [Act.put, List.setIfInBounds_toArray, List.set_cons_zero, List.set_cons_succ]
         refine wpAnyH_take (i := 15) (oi := { dst := some 83, op := Op.extract (Operand.tmp 68) 1, type := _, pos := _, after := _, guard := none }) (v := ?_) rfl (by kernel_rfl) (by kernel_rfl) (by kernel_rfl) (fun _ _ _ h => h) (Or.inl ⟨by rfl, ?_⟩) hH ?_
         rotate_left
         · (intro w hSw; go_simp; (try with_reducible rfl))
         try simp only [Act.put, List.setIfInBounds_toArray, List.set_cons_zero, List.set_cons_succ]
         rotate_left
         have l16 := kz.size
         have nb16 := NB.new Y 23
         replace kz := kep_more kz (.cells #[.int .i32 0, .int .i32 0] 23)
         replace hH := Sk _ _ hH (kep_more (Kep.refl _ _) (.cells #[.int .i32 0, .int .i32 0] 23))
         go_simp
         refine hK.out _ _ hH (fun hH2 => ?_)
         clear hK K hH; have hH := hH2; clear hH2
         try simp only [Act.put, List.setIfInBounds_toArray, List.set_cons_zero, List.set_cons_succ]
         generalize Y.heap.size = b16 at *
         generalize World.alloc Y (.cells #[.int .i32 0, .int .i32 0] 23) = Y at *
         rotate_left
         have l17 := kz.size
         have nb17 := NB.new Y 23
         replace kz := kep_more kz (.cells #[.int .i32 0, .int .i32 0] 23)
         replace hH := Sk _ _ hH (kep_more (Kep.refl _ _) (.cells #[.int .i32 0, .int .i32 0] 23))
         go_simp
         refine hK.out _ _ hH (fun hH2 => ?_)
         clear hK K hH; have hH := hH2; clear hH2
         try simp only [Act.put, List.setIfInBounds_toArray, List.set_cons_zero, List.set_cons_succ]
         generalize Y.heap.size = b17 at *
         generalize World.alloc Y (.cells #[.int .i32 0, .int .i32 0] 23) = Y at *
         rotate_left)
      | (refine wpAnyH_ready (rs := [11, 17]) (by decide +kernel) (by simp) ?_
         refine AllReadyH.cons (o := { dst := some 80, op := Op.call { callee := Callee.value (Operand.func 15), args := #[Operand.tmp 78, Operand.tmp 79], argTypes := #[23, 23] }, type := _, pos := _, after := _, guard := none }) rfl (fun K hK => ?_) (AllReadyH.cons (o := { dst := some 14, op := Op.alloc 23, type := _, pos := _, after := _, guard := none }) rfl (fun K hK => ?_) AllReadyH.nil)
         go_simp
         (with_reducible refine (M4.out _).mono ?_); rintro e Y ⟨rfl, g⟩
         refine hK.out _ _ (Sk _ _ hH g) (fun hH2 => ?_)
         clear hK K hH; have hH := hH2; clear hH2
         replace nb16 := nb16.kep g
         replace kz := kep_next kz g
         clear g
         try simp only [Act.put, List.setIfInBounds_toArray, List.set_cons_zero, List.set_cons_succ]
         rotate_left
         have l17 := kz.size
         have nb17 := NB.new Y 23
         have m16 := nb16.lt
         replace nb16 := nb16.kep (kep_more (Kep.refl _ _) (.cells #[.int .i32 0, .int .i32 0] 23))
         replace kz := kep_more kz (.cells #[.int .i32 0, .int .i32 0] 23)
         replace hH := Sk _ _ hH (kep_more (Kep.refl _ _) (.cells #[.int .i32 0, .int .i32 0] 23))
         go_simp
         refine hK.out _ _ hH (fun hH2 => ?_)
         clear hK K hH; have hH := hH2; clear hH2
         try simp only [Act.put, List.setIfInBounds_toArray, List.set_cons_zero, List.set_cons_succ]
         generalize Y.heap.size = b17 at *
         generalize World.alloc Y (.cells #[.int .i32 0, .int .i32 0] 23) = Y at *
         rotate_left)
      | (refine wpAnyH_ready (rs := [11, 16]) (by decide +kernel) (by simp) ?_
         refine AllReadyH.cons (o := { dst := some 80, op := Op.call { callee := Callee.value (Operand.func 15), args := #[Operand.tmp 78, Operand.tmp 79], argTypes := #[23, 23] }, type := _, pos := _, after := _, guard := none }) rfl (fun K hK => ?_) (AllReadyH.cons (o := { dst := some 13, op := Op.alloc 23, type := _, pos := _, after := _, guard := none }) rfl (fun K hK => ?_) AllReadyH.nil)
         go_simp
         (with_reducible refine (M4.out _).mono ?_); rintro e Y ⟨rfl, g⟩
         refine hK.out _ _ (Sk _ _ hH g) (fun hH2 => ?_)
         clear hK K hH; have hH := hH2; clear hH2
         replace nb17 := nb17.kep g
         replace kz := kep_next kz g
         clear g
         try simp only [Act.put, List.setIfInBounds_toArray, List.set_cons_zero, List.set_cons_succ]
         rotate_left
         have l16 := kz.size
         have nb16 := NB.new Y 23
         have m17 := nb17.lt
         replace nb17 := nb17.kep (kep_more (Kep.refl _ _) (.cells #[.int .i32 0, .int .i32 0] 23))
         replace kz := kep_more kz (.cells #[.int .i32 0, .int .i32 0] 23)
         replace hH := Sk _ _ hH (kep_more (Kep.refl _ _) (.cells #[.int .i32 0, .int .i32 0] 23))
         go_simp
         refine hK.out _ _ hH (fun hH2 => ?_)
         clear hK K hH; have hH := hH2; clear hH2
         try simp only [Act.put, List.setIfInBounds_toArray, List.set_cons_zero, List.set_cons_succ]
         generalize Y.heap.size = b16 at *
         generalize World.alloc Y (.cells #[.int .i32 0, .int .i32 0] 23) = Y at *
         rotate_left)
      | (refine wpAnyH_ready (rs := [8]) (by decide +kernel) (by simp) ?_
         refine AllReadyH.cons (o := { dst := some 77, op := Op.call { callee := Callee.value (Operand.func 15), args := #[Operand.tmp 75, Operand.tmp 76], argTypes := #[23, 23] }, type := _, pos := _, after := _, guard := none }) rfl (fun K hK => ?_) AllReadyH.nil
         go_simp
         (with_reducible refine (M3.out _).mono ?_); rintro e Y ⟨rfl, g⟩
         refine hK.out _ _ (Sk _ _ hH g) (fun hH2 => ?_)
         clear hK K hH; have hH := hH2; clear hH2
         replace nb16 := nb16.kep g
         replace nb17 := nb17.kep g
         replace kz := kep_next kz g
         clear g
         try simp only [Act.put, List.setIfInBounds_toArray, List.set_cons_zero, List.set_cons_succ])
    all_goals first
      | (refine wpAnyH_ready (rs := [16, 17]) (by decide +kernel) (by simp) ?_
         refine AllReadyH.cons (o := { dst := some 13, op := Op.alloc 23, type := _, pos := _, after := _, guard := none }) rfl (fun K hK => ?_) (AllReadyH.cons (o := { dst := some 14, op := Op.alloc 23, type := _, pos := _, after := _, guard := none }) rfl (fun K hK => ?_) AllReadyH.nil)
         have l16 := kz.size
         have nb16 := NB.new Y 23
         replace kz := kep_more kz (.cells #[.int .i32 0, .int .i32 0] 23)
         replace hH := Sk _ _ hH (kep_more (Kep.refl _ _) (.cells #[.int .i32 0, .int .i32 0] 23))
         go_simp
         refine hK.out _ _ hH (fun hH2 => ?_)
         clear hK K hH; have hH := hH2; clear hH2
         try simp only [Act.put, List.setIfInBounds_toArray, List.set_cons_zero, List.set_cons_succ]
         generalize Y.heap.size = b16 at *
         generalize World.alloc Y (.cells #[.int .i32 0, .int .i32 0] 23) = Y at *
         rotate_left
         have l17 := kz.size
         have nb17 := NB.new Y 23
         replace kz := kep_more kz (.cells #[.int .i32 0, .int .i32 0] 23)
         replace hH := Sk _ _ hH (kep_more (Kep.refl _ _) (.cells #[.int .i32 0, .int .i32 0] 23))
         go_simp
         refine hK.out _ _ hH (fun hH2 => ?_)
         clear hK K hH; have hH := hH2; clear hH2
         try simp only [Act.put, List.setIfInBounds_toArray, List.set_cons_zero, List.set_cons_succ]
         generalize Y.heap.size = b17 at *
         generalize World.alloc Y (.cells #[.int .i32 0, .int .i32 0] 23) = Y at *
         rotate_left)
      | (refine wpAnyH_ready (rs := [12, 17]) (by decide +kernel) (by simp) ?_
         refine AllReadyH.cons (o := { dst := some 81, op := Op.call { callee := Callee.value (Operand.func 10), args := #[Operand.tmp 71, Operand.tmp 74, Operand.tmp 77, Operand.tmp 80], argTypes := #[23, 23, 23, 23] }, type := _, pos := _, after := _, guard := none }) rfl (fun K hK => ?_) (AllReadyH.cons (o := { dst := some 14, op := Op.alloc 23, type := _, pos := _, after := _, guard := none }) rfl (fun K hK => ?_) AllReadyH.nil)
         go_simp
         (with_reducible refine (C2.out _).mono ?_); rintro e Y ⟨rfl, g⟩
         refine hK.out _ _ (Sk _ _ hH g) (fun hH2 => ?_)
         clear hK K hH; have hH := hH2; clear hH2
         replace nb16 := nb16.kep g
         replace kz := kep_next kz g
         clear g
         try simp only [Act.put, List.setIfInBounds_toArray, List.set_cons_zero, List.set_cons_succ]
         refine wpAnyH_take (i := 13) (oi := { dst := some 68, op := Op.move (Operand.tmp 81), type := _, pos := _, after := _, guard := none }) (v := ?_) rfl (by kernel_rfl) (by kernel_rfl) (by kernel_rfl) (fun _ _ _ h => h) (Or.inl ⟨by rfl, ?_⟩) hH ?_
         rotate_left
         · (intro w hSw; go_simp; (try with_reducible rfl))
         try simp only [Act.put, List.setIfInBounds_toArray, List.set_cons_zero, List.set_cons_succ]
         refine wpAnyH_take (i := 14) (oi := { dst := some 82, op := Op.extract (Operand.tmp 68) 0, type := _, pos := _, after := _, guard := none }) (v := ?_) rfl (by kernel_rfl) (by kernel_rfl) (by kernel_rfl) (fun _ _ _ h => h) (Or.inl ⟨by rfl, ?_⟩) hH ?_
         rotate_left
         · (intro w hSw; go_simp; (try with_reducible rfl))
         try simp only [Act.put, List.setIfInBounds_toArray, List.set_cons_zero, List.set_cons_succ]
         refine wpAnyH_take (i := 15) (oi := { dst := some 83, op := Op.extract (Operand.tmp 68) 1, type := _, pos := _, after := _, guard := none }) (v := ?_) rfl (by kernel_rfl) (by kernel_rfl) (by kernel_rfl) (fun _ _ _ h => h) (Or.inl ⟨by rfl, ?_⟩) hH ?_
         rotate_left
         · (intro w hSw; go_simp; (try with_reducible rfl))
         try simp only [Act.put, List.setIfInBounds_toArray, List.set_cons_zero, List.set_cons_succ]
         rotate_left
         have l17 := kz.size
         have nb17 := NB.new Y 23
         have m16 := nb16.lt
         replace nb16 := nb16.kep (kep_more (Kep.refl _ _) (.cells #[.int .i32 0, .int .i32 0] 23))
         replace kz := kep_more kz (.cells #[.int .i32 0, .int .i32 0] 23)
         replace hH := Sk _ _ hH (kep_more (Kep.refl _ _) (.cells #[.int .i32 0, .int .i32 0] 23))
         go_simp
         refine hK.out _ _ hH (fun hH2 => ?_)
         clear hK K hH; have hH := hH2; clear hH2
         try simp only [Act.put, List.setIfInBounds_toArray, List.set_cons_zero, List.set_cons_succ]
         generalize Y.heap.size = b17 at *
         generalize World.alloc Y (.cells #[.int .i32 0, .int .i32 0] 23) = Y at *
         rotate_left)
      | (refine wpAnyH_ready (rs := [12, 16]) (by decide +kernel) (by simp) ?_
         refine AllReadyH.cons (o := { dst := some 81, op := Op.call { callee := Callee.value (Operand.func 10), args := #[Operand.tmp 71, Operand.tmp 74, Operand.tmp 77, Operand.tmp 80], argTypes := #[23, 23, 23, 23] }, type := _, pos := _, after := _, guard := none }) rfl (fun K hK => ?_) (AllReadyH.cons (o := { dst := some 13, op := Op.alloc 23, type := _, pos := _, after := _, guard := none }) rfl (fun K hK => ?_) AllReadyH.nil)
         go_simp
         (with_reducible refine (C2.out _).mono ?_); rintro e Y ⟨rfl, g⟩
         refine hK.out _ _ (Sk _ _ hH g) (fun hH2 => ?_)
         clear hK K hH; have hH := hH2; clear hH2
         replace nb17 := nb17.kep g
         replace kz := kep_next kz g
         clear g
         try simp only [Act.put, List.setIfInBounds_toArray, List.set_cons_zero, List.set_cons_succ]
         refine wpAnyH_take (i := 13) (oi := { dst := some 68, op := Op.move (Operand.tmp 81), type := _, pos := _, after := _, guard := none }) (v := ?_) rfl (by kernel_rfl) (by kernel_rfl) (by kernel_rfl) (fun _ _ _ h => h) (Or.inl ⟨by rfl, ?_⟩) hH ?_
         rotate_left
         · (intro w hSw; go_simp; (try with_reducible rfl))
         try simp only [Act.put, List.setIfInBounds_toArray, List.set_cons_zero, List.set_cons_succ]
         refine wpAnyH_take (i := 14) (oi := { dst := some 82, op := Op.extract (Operand.tmp 68) 0, type := _, pos := _, after := _, guard := none }) (v := ?_) rfl (by kernel_rfl) (by kernel_rfl) (by kernel_rfl) (fun _ _ _ h => h) (Or.inl ⟨by rfl, ?_⟩) hH ?_
         rotate_left
         · (intro w hSw; go_simp; (try with_reducible rfl))
         try simp only [Act.put, List.setIfInBounds_toArray, List.set_cons_zero, List.set_cons_succ]
         refine wpAnyH_take (i := 15) (oi := { dst := some 83, op := Op.extract (Operand.tmp 68) 1, type := _, pos := _, after := _, guard := none }) (v := ?_) rfl (by kernel_rfl) (by kernel_rfl) (by kernel_rfl) (fun _ _ _ h => h) (Or.inl ⟨by rfl, ?_⟩) hH ?_
         rotate_left
         · (intro w hSw; go_simp; (try with_reducible rfl))
         try simp only [Act.put, List.setIfInBounds_toArray, List.set_cons_zero, List.set_cons_succ]
         rotate_left
         have l16 := kz.size
         have nb16 := NB.new Y 23
         have m17 := nb17.lt
         replace nb17 := nb17.kep (kep_more (Kep.refl _ _) (.cells #[.int .i32 0, .int .i32 0] 23))
         replace kz := kep_more kz (.cells #[.int .i32 0, .int .i32 0] 23)
         replace hH := Sk _ _ hH (kep_more (Kep.refl _ _) (.cells #[.int .i32 0, .int .i32 0] 23))
         go_simp
         refine hK.out _ _ hH (fun hH2 => ?_)
         clear hK K hH; have hH := hH2; clear hH2
         try simp only [Act.put, List.setIfInBounds_toArray, List.set_cons_zero, List.set_cons_succ]
         generalize Y.heap.size = b16 at *
         generalize World.alloc Y (.cells #[.int .i32 0, .int .i32 0] 23) = Y at *
         rotate_left)
      | (refine wpAnyH_ready (rs := [11]) (by decide +kernel) (by simp) ?_
         refine AllReadyH.cons (o := { dst := some 80, op := Op.call { callee := Callee.value (Operand.func 15), args := #[Operand.tmp 78, Operand.tmp 79], argTypes := #[23, 23] }, type := _, pos := _, after := _, guard := none }) rfl (fun K hK => ?_) AllReadyH.nil
         go_simp
         (with_reducible refine (M4.out _).mono ?_); rintro e Y ⟨rfl, g⟩
         refine hK.out _ _ (Sk _ _ hH g) (fun hH2 => ?_)
         clear hK K hH; have hH := hH2; clear hH2
         replace nb16 := nb16.kep g
         replace nb17 := nb17.kep g
         replace kz := kep_next kz g
         clear g
         try simp only [Act.put, List.setIfInBounds_toArray, List.set_cons_zero, List.set_cons_succ])
    all_goals first
      | (refine wpAnyH_ready (rs := [17]) (by decide +kernel) (by simp) ?_
         refine AllReadyH.cons (o := { dst := some 14, op := Op.alloc 23, type := _, pos := _, after := _, guard := none }) rfl (fun K hK => ?_) AllReadyH.nil
         have l17 := kz.size
         have nb17 := NB.new Y 23
         have m16 := nb16.lt
         replace nb16 := nb16.kep (kep_more (Kep.refl _ _) (.cells #[.int .i32 0, .int .i32 0] 23))
         replace kz := kep_more kz (.cells #[.int .i32 0, .int .i32 0] 23)
         replace hH := Sk _ _ hH (kep_more (Kep.refl _ _) (.cells #[.int .i32 0, .int .i32 0] 23))
         go_simp
         refine hK.out _ _ hH (fun hH2 => ?_)
         clear hK K hH; have hH := hH2; clear hH2
         try simp only [Act.put, List.setIfInBounds_toArray, List.set_cons_zero, List.set_cons_succ]
         generalize Y.heap.size = b17 at *
         generalize World.alloc Y (.cells #[.int .i32 0, .int .i32 0] 23) = Y at *)
      | (refine wpAnyH_ready (rs := [16]) (by decide +kernel) (by simp) ?_
         refine AllReadyH.cons (o := { dst := some 13, op := Op.alloc 23, type := _, pos := _, after := _, guard := none }) rfl (fun K hK => ?_) AllReadyH.nil
         have l16 := kz.size
         have nb16 := NB.new Y 23
         have m17 := nb17.lt
         replace nb17 := nb17.kep (kep_more (Kep.refl _ _) (.cells #[.int .i32 0, .int .i32 0] 23))
         replace kz := kep_more kz (.cells #[.int .i32 0, .int .i32 0] 23)
         replace hH := Sk _ _ hH (kep_more (Kep.refl _ _) (.cells #[.int .i32 0, .int .i32 0] 23))
         go_simp
         refine hK.out _ _ hH (fun hH2 => ?_)
         clear hK K hH; have hH := hH2; clear hH2
         try simp only [Act.put, List.setIfInBounds_toArray, List.set_cons_zero, List.set_cons_succ]
         generalize Y.heap.size = b16 at *
         generalize World.alloc Y (.cells #[.int .i32 0, .int .i32 0] 23) = Y at *)
      | (refine wpAnyH_ready (rs := [12]) (by decide +kernel) (by simp) ?_
         refine AllReadyH.cons (o := { dst := some 81, op := Op.call { callee := Callee.value (Operand.func 10), args := #[Operand.tmp 71, Operand.tmp 74, Operand.tmp 77, Operand.tmp 80], argTypes := #[23, 23, 23, 23] }, type := _, pos := _, after := _, guard := none }) rfl (fun K hK => ?_) AllReadyH.nil
         go_simp
         (with_reducible refine (C2.out _).mono ?_); rintro e Y ⟨rfl, g⟩
         refine hK.out _ _ (Sk _ _ hH g) (fun hH2 => ?_)
         clear hK K hH; have hH := hH2; clear hH2
         replace nb16 := nb16.kep g
         replace nb17 := nb17.kep g
         replace kz := kep_next kz g
         clear g
         try simp only [Act.put, List.setIfInBounds_toArray, List.set_cons_zero, List.set_cons_succ]
         refine wpAnyH_take (i := 13) (oi := { dst := some 68, op := Op.move (Operand.tmp 81), type := _, pos := _, after := _, guard := none }) (v := ?_) rfl (by kernel_rfl) (by kernel_rfl) (by kernel_rfl) (fun _ _ _ h => h) (Or.inl ⟨by rfl, ?_⟩) hH ?_
         rotate_left
         · (intro w hSw; go_simp; (try with_reducible rfl))
         try simp only [Act.put, List.setIfInBounds_toArray, List.set_cons_zero, List.set_cons_succ]
         refine wpAnyH_take (i := 14) (oi := { dst := some 82, op := Op.extract (Operand.tmp 68) 0, type := _, pos := _, after := _, guard := none }) (v := ?_) rfl (by kernel_rfl) (by kernel_rfl) (by kernel_rfl) (fun _ _ _ h => h) (Or.inl ⟨by rfl, ?_⟩) hH ?_
         rotate_left
         · (intro w hSw; go_simp; (try with_reducible rfl))
         try simp only [Act.put, List.setIfInBounds_toArray, List.set_cons_zero, List.set_cons_succ]
         refine wpAnyH_take (i := 15) (oi := { dst := some 83, op := Op.extract (Operand.tmp 68) 1, type := _, pos := _, after := _, guard := none }) (v := ?_) rfl (by kernel_rfl) (by kernel_rfl) (by kernel_rfl) (fun _ _ _ h => h) (Or.inl ⟨by rfl, ?_⟩) hH ?_
         rotate_left
         · (intro w hSw; go_simp; (try with_reducible rfl))
         try simp only [Act.put, List.setIfInBounds_toArray, List.set_cons_zero, List.set_cons_succ])
    all_goals (
      have hne : b16 ≠ b17 := by omega
      refine wpAnyH_ready (rs := [18]) (by kernel_rfl) (by simp) ?_
      refine AllReadyH.cons (o := { dst := none, op := Op.store 23 (Operand.tmp 13) (Operand.tmp 82), type := _, pos := _, after := _, guard := none }) rfl (fun K hK => ?_) AllReadyH.nil
      obtain ⟨q0, e0⟩ := Option.isSome_iff_exists.1 nb16.s0
      obtain ⟨q1, e1⟩ := Option.isSome_iff_exists.1 nb16.s1
      have f0 := nb16.f0
      have f1 := nb16.f1
      go_simp
      refine hK.out _ _ (Ss _ _ _ _ (Ss _ _ _ _ hH (by omega)) (by omega)) (fun hH2 => ?_)
      have x16 := And.intro (set2_0 (x := .int .i32 ya) (y := .int .i32 yb) nb16) (set2_1 (x := .int .i32 ya) (y := .int .i32 yb) nb16)
      replace nb17 := (nb17.set (c := b16) 0 (.int .i32 ya)).set (c := b16) 1 (.int .i32 yb)
      clear hK K hH e0 e1 f0 f1; have hH := hH2; clear hH2
      try simp only [Act.put, List.setIfInBounds_toArray, List.set_cons_zero, List.set_cons_succ]
      refine wpAnyH_ready (rs := [19]) (by kernel_rfl) (by simp) ?_
      refine AllReadyH.cons (o := { dst := none, op := Op.store 23 (Operand.tmp 14) (Operand.tmp 83), type := _, pos := _, after := _, guard := none }) rfl (fun K hK => ?_) AllReadyH.nil
      obtain ⟨q0, e0⟩ := Option.isSome_iff_exists.1 nb17.s0
      obtain ⟨q1, e1⟩ := Option.isSome_iff_exists.1 nb17.s1
      have f0 := nb17.f0
      have f1 := nb17.f1
      go_simp
      refine hK.out _ _ (Ss _ _ _ _ (Ss _ _ _ _ hH (by omega)) (by omega)) (fun hH2 => ?_)
      have x17 := And.intro (set2_0 (x := .int .i32 yc) (y := .int .i32 yd) nb17) (set2_1 (x := .int .i32 yc) (y := .int .i32 yd) nb17)
      replace x16 := And.intro (sset_far (u := .int .i32 ya) (p := ⟨b17, 1, none⟩) (v := .int .i32 yd) (sset_far (p := ⟨b17, 0, none⟩) (v := .int .i32 yc) x16.1 hne.symm) hne.symm) (sset_far (u := .int .i32 yb) (p := ⟨b17, 1, none⟩) (v := .int .i32 yd) (sset_far (p := ⟨b17, 0, none⟩) (v := .int .i32 yc) x16.2 hne.symm) hne.symm)
      clear hK K hH e0 e1 f0 f1; have hH := hH2; clear hH2
      try simp only [Act.put, List.setIfInBounds_toArray, List.set_cons_zero, List.set_cons_succ]
      refine wpAnyH_done (by kernel_rfl) ?_ _
      refine NoPanic.normal ?_
      go_wp2_with fail
      go_meet
      exact fin hH x16 x17)
  case rest =>
    obtain ⟨u1, u2, rfl, rfl, p0, p1, q0, q1, m0, m1, n0, n1, d0, d1, a0, a1, b0, b1, y10, y11, z10, z11, gg⟩ := hcut
    go_wp2_with fail
    refine wp_region_noPanic ?_
    refine wp_region_held_drew (S := (fun w' => w'.cell? ⟨w.heap.size, 0, none⟩ = some (.int .i32 px) ∧ w'.cell? ⟨w.heap.size, 1, none⟩ = some (.int .i32 py) ∧ w'.cell? ⟨w.heap.size + 1, 0, none⟩ = some (.int .i32 qx) ∧ w'.cell? ⟨w.heap.size + 1, 1, none⟩ = some (.int .i32 qy) ∧ w'.cell? ⟨w.heap.size + 1 + 1, 0, none⟩ = some (.int .i32 mx) ∧ w'.cell? ⟨w.heap.size + 1 + 1, 1, none⟩ = some (.int .i32 my) ∧ w'.cell? ⟨w.heap.size + 1 + 1 + 1, 0, none⟩ = some (.int .i32 nx) ∧ w'.cell? ⟨w.heap.size + 1 + 1 + 1, 1, none⟩ = some (.int .i32 ny) ∧ w'.cell? ⟨w.heap.size + 1 + 1 + 1 + 1, 0, none⟩ = some (.int .i32 vx) ∧ w'.cell? ⟨w.heap.size + 1 + 1 + 1 + 1, 1, none⟩ = some (.int .i32 vy) ∧ w'.cell? ⟨w4.heap.size, 0, none⟩ = some (.int .i32 xa) ∧ w'.cell? ⟨w4.heap.size, 1, none⟩ = some (.int .i32 xb) ∧ w'.cell? ⟨w4.heap.size + 1, 0, none⟩ = some (.int .i32 xc) ∧ w'.cell? ⟨w4.heap.size + 1, 1, none⟩ = some (.int .i32 xd) ∧ w'.cell? ⟨u1, 0, none⟩ = some (.int .i32 ya) ∧ w'.cell? ⟨u1, 1, none⟩ = some (.int .i32 yb) ∧ w'.cell? ⟨u2, 0, none⟩ = some (.int .i32 yc) ∧ w'.cell? ⟨u2, 1, none⟩ = some (.int .i32 yd) ∧ Kep w.heap.size w w')) (by kernel_rfl) (⟨by rw [World.cell?_drew]; exact p0, by rw [World.cell?_drew]; exact p1, by rw [World.cell?_drew]; exact q0, by rw [World.cell?_drew]; exact q1, by rw [World.cell?_drew]; exact m0, by rw [World.cell?_drew]; exact m1, by rw [World.cell?_drew]; exact n0, by rw [World.cell?_drew]; exact n1, by rw [World.cell?_drew]; exact d0, by rw [World.cell?_drew]; exact d1, by rw [World.cell?_drew]; exact a0, by rw [World.cell?_drew]; exact a1, by rw [World.cell?_drew]; exact b0, by rw [World.cell?_drew]; exact b1, by rw [World.cell?_drew]; exact y10, by rw [World.cell?_drew]; exact y11, by rw [World.cell?_drew]; exact z10, by rw [World.cell?_drew]; exact z11, kep_drew gg⟩) (fun hH => ?_)
    refine wpAnyH_take (i := 0) (oi := { dst := some 84, op := Op.load 23 (Operand.tmp 13), type := _, pos := _, after := _, guard := none }) (v := ?_) rfl (by kernel_rfl) (by kernel_rfl) (by kernel_rfl) (fun _ _ _ h => h) (Or.inl ⟨by rfl, ?_⟩) hH ?_
    rotate_left
    · (intro w hSw; (try dsimp only at hSw); go_simp; (try with_reducible rfl))
    try simp only [Act.put, List.setIfInBounds_toArray, List.set_cons_zero, List.set_cons_succ]
    refine wpAnyH_take (i := 1) (oi := { dst := some 85, op := Op.load 23 (Operand.tmp 11), type := _, pos := _, after := _, guard := none }) (v := ?_) rfl (by kernel_rfl) (by kernel_rfl) (by kernel_rfl) (fun _ _ _ h => h) (Or.inl ⟨by rfl, ?_⟩) hH ?_
    rotate_left
    · (intro w hSw; (try dsimp only at hSw); go_simp; (try with_reducible rfl))
    try simp only [Act.put, List.setIfInBounds_toArray, List.set_cons_zero, List.set_cons_succ]
    refine wpAnyH_take (i := 2) (oi := { dst := some 86, op := Op.load 23 (Operand.tmp 9), type := _, pos := _, after := _, guard := none }) (v := ?_) rfl (by kernel_rfl) (by kernel_rfl) (by kernel_rfl) (fun _ _ _ h => h) (Or.inl ⟨by rfl, ?_⟩) hH ?_
    rotate_left
    · (intro w hSw; (try dsimp only at hSw); go_simp; (try with_reducible rfl))
    try simp only [Act.put, List.setIfInBounds_toArray, List.set_cons_zero, List.set_cons_succ]
    refine wpAnyH_ready (rs := [3]) (by kernel_rfl) (by simp) ?_
    refine AllReadyH.cons (o := { dst := some 87, op := Op.call { callee := Callee.value (Operand.func 15), args := #[Operand.tmp 85, Operand.tmp 86], argTypes := #[23, 23] }, type := _, pos := _, after := _, guard := none }) rfl (fun K hK => ?_) AllReadyH.nil
    go_simp
    (with_reducible refine (M5.out _).mono ?_); rintro e v7_3 ⟨rfl, g⟩
    refine hK.out _ _ (by (try dsimp only); (go_split_ands; exact ⟨Kep.all g (by assumption), Kep.all g (by assumption), Kep.all g (by assumption), Kep.all g (by assumption), Kep.all g (by assumption), Kep.all g (by assumption), Kep.all g (by assumption), Kep.all g (by assumption), Kep.all g (by assumption), Kep.all g (by assumption), Kep.all g (by assumption), Kep.all g (by assumption), Kep.all g (by assumption), Kep.all g (by assumption), Kep.all g (by assumption), Kep.all g (by assumption), Kep.all g (by assumption), Kep.all g (by assumption), kep_next (by assumption) g⟩)) (fun hH2 => ?_)
    clear hK K hH; have hH := hH2; clear hH2
    try simp only [Act.put, List.setIfInBounds_toArray, List.set_cons_zero, List.set_cons_succ]
    refine wpAnyH_take (i := 4) (oi := { dst := some 88, op := Op.binOp BinOp.eql 23 (Operand.tmp 84) (Operand.tmp 87) 23, type := _, pos := _, after := _, guard := none }) (v := ?_) rfl (by kernel_rfl) (by kernel_rfl) (by kernel_rfl) (fun _ _ _ h => h) (Or.inl ⟨by rfl, ?_⟩) hH ?_
    rotate_left
    · (intro w hSw; (try dsimp only at hSw); go_simp; (try with_reducible rfl))
    try simp only [Act.put, List.setIfInBounds_toArray, List.set_cons_zero, List.set_cons_succ]
    refine wpAnyH_take (i := 5) (oi := { dst := some 89, op := Op.move (Operand.tmp 88), type := _, pos := _, after := _, guard := none }) (v := ?_) rfl (by kernel_rfl) (by kernel_rfl) (by kernel_rfl) (fun _ _ _ h => h) (Or.inl ⟨by rfl, ?_⟩) hH ?_
    rotate_left
    · (intro w hSw; (try dsimp only at hSw); go_simp; (try with_reducible rfl))
    try simp only [Act.put, List.setIfInBounds_toArray, List.set_cons_zero, List.set_cons_succ]
    refine wpAnyH_take (i := 6) (oi := { dst := some 90, op := Op.load 23 (Operand.tmp 14), type := _, pos := _, after := _, guard := some (5, true) }) (v := ?_) rfl (by kernel_rfl) (by kernel_rfl) (by kernel_rfl) (fun _ _ _ h => h) (Or.inl ⟨by rfl, ?_⟩) hH ?_
    rotate_left
    · (intro w hSw; (try dsimp only at hSw); go_simp; (try with_reducible rfl))
    try simp only [Act.put, List.setIfInBounds_toArray, List.set_cons_zero, List.set_cons_succ]
    refine wpAnyH_take (i := 7) (oi := { dst := some 91, op := Op.load 23 (Operand.tmp 12), type := _, pos := _, after := _, guard := some (5, true) }) (v := ?_) rfl (by kernel_rfl) (by kernel_rfl) (by kernel_rfl) (fun _ _ _ h => h) (Or.inl ⟨by rfl, ?_⟩) hH ?_
    rotate_left
    · (intro w hSw; (try dsimp only at hSw); go_simp; (try with_reducible rfl))
    try simp only [Act.put, List.setIfInBounds_toArray, List.set_cons_zero, List.set_cons_succ]
    refine wpAnyH_take (i := 8) (oi := { dst := some 92, op := Op.load 23 (Operand.tmp 9), type := _, pos := _, after := _, guard := some (5, true) }) (v := ?_) rfl (by kernel_rfl) (by kernel_rfl) (by kernel_rfl) (fun _ _ _ h => h) (Or.inl ⟨by rfl, ?_⟩) hH ?_
    rotate_left
    · (intro w hSw; (try dsimp only at hSw); go_simp; (try with_reducible rfl))
    try simp only [Act.put, List.setIfInBounds_toArray, List.set_cons_zero, List.set_cons_succ]
    refine wpAnyH_ready (rs := [9]) (by kernel_rfl) (by simp) ?_
    refine AllReadyH.cons (o := { dst := some 93, op := Op.call { callee := Callee.value (Operand.func 15), args := #[Operand.tmp 91, Operand.tmp 92], argTypes := #[23, 23] }, type := _, pos := _, after := _, guard := some (5, true) }) rfl (fun K hK => ?_) AllReadyH.nil
    go_simp
    (with_reducible refine (M6.out _).mono ?_); rintro e v7_9 ⟨rfl, g⟩
    refine hK.out _ _ (by (try dsimp only); (go_split_ands; exact ⟨Kep.all g (by assumption), Kep.all g (by assumption), Kep.all g (by assumption), Kep.all g (by assumption), Kep.all g (by assumption), Kep.all g (by assumption), Kep.all g (by assumption), Kep.all g (by assumption), Kep.all g (by assumption), Kep.all g (by assumption), Kep.all g (by assumption), Kep.all g (by assumption), Kep.all g (by assumption), Kep.all g (by assumption), Kep.all g (by assumption), Kep.all g (by assumption), Kep.all g (by assumption), Kep.all g (by assumption), kep_next (by assumption) g⟩)) (fun hH2 => ?_)
    clear hK K hH; have hH := hH2; clear hH2
    try simp only [Act.put, List.setIfInBounds_toArray, List.set_cons_zero, List.set_cons_succ]
    refine wpAnyH_take (i := 10) (oi := { dst := some 94, op := Op.binOp BinOp.eql 23 (Operand.tmp 90) (Operand.tmp 93) 23, type := _, pos := _, after := _, guard := some (5, true) }) (v := ?_) rfl (by kernel_rfl) (by kernel_rfl) (by kernel_rfl) (fun _ _ _ h => h) (Or.inl ⟨by rfl, ?_⟩) hH ?_
    rotate_left
    · (intro w hSw; (try dsimp only at hSw); go_simp; (try with_reducible rfl))
    try simp only [Act.put, List.setIfInBounds_toArray, List.set_cons_zero, List.set_cons_succ]
    refine wpAnyH_take (i := 11) (oi := { dst := some 95, op := Op.pick (Operand.tmp 89) (Operand.tmp 94) (Operand.const (Value.bool false)), type := _, pos := _, after := _, guard := none }) (v := ?_) rfl (by kernel_rfl) (by kernel_rfl) (by kernel_rfl) (fun _ _ _ h => h) (Or.inl ⟨by rfl, ?_⟩) hH ?_
    rotate_left
    · (intro w hSw; (try dsimp only at hSw); go_simp; (try with_reducible rfl))
    try simp only [Act.put, List.setIfInBounds_toArray, List.set_cons_zero, List.set_cons_succ]
    refine wpAnyH_take (i := 12) (oi := { dst := some 10, op := Op.assign (Operand.tmp 95), type := _, pos := _, after := _, guard := none }) (v := ?_) rfl (by kernel_rfl) (by kernel_rfl) (by kernel_rfl) (fun _ _ _ h => h) (Or.inl ⟨by rfl, ?_⟩) hH ?_
    rotate_left
    · (intro w hSw; (try dsimp only at hSw); go_simp; (try with_reducible rfl))
    try simp only [Act.put, List.setIfInBounds_toArray, List.set_cons_zero, List.set_cons_succ]
    refine wpAnyH_done (by kernel_rfl) ?_ _
    refine NoPanic.normal ?_
    clear p0 p1 q0 q1 m0 m1 n0 n1 d0 d1 a0 a1 b0 b1 y10 y11 z10 z11 gg
    obtain ⟨p0, p1, q0, q1, m0, m1, n0, n1, d0, d1, a0, a1, b0, b1, y10, y11, z10, z11, gg⟩ := hH
    go_wp2_with fail
    go_ret
    exact ⟨rfl, gg⟩
theorem mvs_of {px py vx vy : Int} (hx : Cin (px + vx)) (hy : Cin (py + vy)) : MVs px py vx vy (px + vx) (py + vy) := mvs (by rw [IntKind.wrap_i32]; unfold Cin at *; omega) (by rw [IntKind.wrap_i32]; unfold Cin at *; omega)
set_option maxRecDepth 100000 in
set_option maxHeartbeats 4000000 in
/-- The law SegmentMoves. -/
theorem svl_law (O : SOps) (AW : SAwake) (px py qx qy mx my nx ny vx vy : Int) (w : World) : Calls Try.prog 6 #[.agg #[.int .i32 px, .int .i32 py], .agg #[.int .i32 qx, .int .i32 qy], .agg #[.int .i32 mx, .int .i32 my], .agg #[.int .i32 nx, .int .i32 ny], .agg #[.int .i32 vx, .int .i32 vy]] w fun e w' => e = .returned (.bool true) ∧ Kep w.heap.size w w' := by
  cases hr : sgB px py qx qy mx my nx ny
  · exact svl_bad (Lib.hid AW) px py qx qy mx my nx ny vx vy hr w
  · by_cases hv : (-1000000000 ≤ vx ∧ vx ≤ 1000000000) ∧ (-1000000000 ≤ vy ∧ vy ≤ 1000000000)
    · have RR := Lib.hid (rr4 px py qx qy mx my nx ny true hr)
      have wm : ∀ {a b : Int}, Cin a → -1000000000 ≤ b ∧ b ≤ 1000000000 → IntKind.i32.wrap (a + b) = a + b := fun h k => by rw [IntKind.wrap_i32]; unfold Cin at h; omega
      obtain ⟨h1, h2⟩ := sg_parts hr
      have M1 := Lib.hid (mvs (wm h1.hpx hv.1) (wm h1.hpy hv.2))
      have M2 := Lib.hid (mvs (wm h1.hqx hv.1) (wm h1.hqy hv.2))
      have M3 := Lib.hid (mvs (wm h2.hpx hv.1) (wm h2.hpy hv.2))
      have M4 := Lib.hid (mvs (wm h2.hqx hv.1) (wm h2.hqy hv.2))
      cases hr2 : sgB (px + vx) (py + vy) (qx + vx) (qy + vy) (mx + vx) (my + vy) (nx + vx) (ny + vy)
      · exact svl_far (Lib.hid AW) _ _ _ _ _ _ _ _ _ _ _ _ _ _ _ _ _ _ RR (Lib.hid (rr4 _ _ _ _ _ _ _ _ false hr2)) M1 M2 M3 M4 hv w
      · have hg := sg_chs hr
        have hg2 := sg_chs hr2
        have C2 := O.chosen hr2 rfl
        have C1 := O.chosen hr rfl
        rw [chs_mv] at C2 hg2
        exact svl_main (Lib.hid AW) _ _ _ _ _ _ _ _ _ _ _ _ _ _ _ _ _ _ _ _ _ _ _ _ _ _ RR (Lib.hid (rr4 _ _ _ _ _ _ _ _ true hr2)) M1 M2 M3 M4 (Lib.hid C1) (Lib.hid C2) (Lib.hid (mvs_of hg2.a hg2.b)) (Lib.hid (mvs_of hg2.c hg2.d)) hv w
    · exact svl_out (Lib.hid AW) px py qx qy mx my nx ny vx vy hr hv w
end Go.Proofs.Ytadbpfmgdjegoaa
