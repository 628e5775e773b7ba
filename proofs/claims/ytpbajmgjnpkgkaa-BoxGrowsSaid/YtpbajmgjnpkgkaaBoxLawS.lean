/-
  Package box: what its laws share; the law BoxSymmetric.
-/
import Derived.Test.YtpbajmgjnpkgkaaBoxRef2
import Derived.Deep.DeepCutAuto
namespace Go.Proofs.Ytpbajmgjnpkgkaa
open Go.RowKit Go.Lib

abbrev BAwake : Prop := ∀ w, Calls Try.prog 8 #[] w fun e w' => e = .returned (.bool true) ∧ Grown w w'
theorem alloc_one {W : World} {a : Addr} {v : Value} {o : Obj} (h : W.cell? a = some v) : (W.alloc o).cell? a = some v := by
  rw [World.cell?_alloc_some _ _ _ (by rw [h]; rfl)]; exact h
theorem alloc_two {W : World} {a : Addr} {v : Value} {o o' : Obj} (h : W.cell? a = some v) : ((W.alloc o).alloc o').cell? a = some v := alloc_one (alloc_one h)
theorem box_eql (a b c d : Int) (w : World) : (binOp .eql 31 (.agg #[.int .i32 a, .int .i32 b, .int .i32 c, .int .i32 d]) (.agg #[.int .i32 a, .int .i32 b, .int .i32 c, .int .i32 d])).run Try.prog w = .ok (.bool true) w := by simp [go_sem]
theorem box_neq (a b c d : Int) (w : World) : (binOp .neq 31 (.agg #[.int .i32 a, .int .i32 b, .int .i32 c, .int .i32 d]) (.agg #[.int .i32 a, .int .i32 b, .int .i32 c, .int .i32 d])).run Try.prog w = .ok (.bool false) w := by simp [go_sem]
theorem ovl_comm (xa ya za ta xb yb zb tb : Int) : ovlB xa ya za ta xb yb zb tb = ovlB xb yb zb tb xa ya za ta := decide_eq_decide.2 (by omega)
theorem ovl_self (xa ya za ta : Int) : ovlB xa ya za ta xa ya za ta = !empB xa ya za ta := by
  unfold ovlB empB
  by_cases h : za < xa ∨ ta < ya
  · rw [decide_eq_true h, decide_eq_false (by omega)]; rfl
  · rw [decide_eq_false h, decide_eq_true (by omega)]; rfl
theorem mee_comm (xa ya za ta xb yb zb tb : Int) : meeQ xa ya za ta xb yb zb tb = meeQ xb yb zb tb xa ya za ta := by
  unfold meeQ
  rw [ovl_comm xa ya za ta xb yb zb tb, Int.max_comm xa, Int.max_comm ya, Int.min_comm za, Int.min_comm ta]
theorem uni_comm (xa ya za ta xb yb zb tb : Int) : uniQ xa ya za ta xb yb zb tb = uniQ xb yb zb tb xa ya za ta := by
  unfold uniQ
  rw [Int.min_comm xa, Int.min_comm ya, Int.max_comm za, Int.max_comm ta]
  cases empB xa ya za ta <;> cases empB xb yb zb tb <;> rfl
set_option maxRecDepth 100000 in
set_option maxHeartbeats 4000000 in
theorem bsl_main (AW : Hid BAwake) (xa ya za ta xb yb zb tb x y z t u v p q : Int) (o n : Bool) (O1 : Hid (BOv xa ya za ta xb yb zb tb o)) (O2 : Hid (BOv xb yb zb tb xa ya za ta o)) (M1 : Hid (BMe xa ya za ta xb yb zb tb x y z t)) (M2 : Hid (BMe xb yb zb tb xa ya za ta x y z t)) (U1 : Hid (BUn xa ya za ta xb yb zb tb u v p q)) (U2 : Hid (BUn xb yb zb tb xa ya za ta u v p q)) (O3 : Hid (BOv xa ya za ta xa ya za ta n)) (E1 : Hid (REm xa ya za ta (!n))) (w : World) :
    Calls Try.prog 6 #[.agg #[.int .i32 xa, .int .i32 ya, .int .i32 za, .int .i32 ta], .agg #[.int .i32 xb, .int .i32 yb, .int .i32 zb, .int .i32 tb]] w fun e w' => e = .returned (.bool true) ∧ Grown w w' := by
  have F1 := Lib.hid (fwd xa ya za ta)
  have F2 := Lib.hid (fwd xb yb zb tb)
  have q1 := fun w => box_eql x y z t w
  have q2 := fun w => box_eql u v p q w
  have oo : (o == o) = true := by simp
  cases n
  all_goals
    go_enter Try.func6, Try.ntmps6
    go_wp2_with (first
      | ((with_reducible refine (AW.out _).mono ?_); rintro e w1 ⟨rfl, g1⟩
         have p0 := kept_cell g1 (b := w.heap.size) (o := 0) (v := .int .i32 xa) (by (repeat (first | rw [World.cell?_drew] | rw [World.cell?_alloc_past _ _ _ (by first | (simp; done) | (simp; omega))])); rw [World.cell?_alloc_at _ _ _ _ (by simp)]; rfl)
         have p1 := kept_cell g1 (b := w.heap.size) (o := 1) (v := .int .i32 ya) (by (repeat (first | rw [World.cell?_drew] | rw [World.cell?_alloc_past _ _ _ (by first | (simp; done) | (simp; omega))])); rw [World.cell?_alloc_at _ _ _ _ (by simp)]; rfl)
         have p2 := kept_cell g1 (b := w.heap.size) (o := 2) (v := .int .i32 za) (by (repeat (first | rw [World.cell?_drew] | rw [World.cell?_alloc_past _ _ _ (by first | (simp; done) | (simp; omega))])); rw [World.cell?_alloc_at _ _ _ _ (by simp)]; rfl)
         have p3 := kept_cell g1 (b := w.heap.size) (o := 3) (v := .int .i32 ta) (by (repeat (first | rw [World.cell?_drew] | rw [World.cell?_alloc_past _ _ _ (by first | (simp; done) | (simp; omega))])); rw [World.cell?_alloc_at _ _ _ _ (by simp)]; rfl)
         have q0 := kept_cell g1 (b := w.heap.size + 1) (o := 0) (v := .int .i32 xb) (by (repeat (first | rw [World.cell?_drew] | rw [World.cell?_alloc_past _ _ _ (by first | (simp; done) | (simp; omega))])); rw [World.cell?_alloc_at _ _ _ _ (by simp)]; rfl)
         have q1 := kept_cell g1 (b := w.heap.size + 1) (o := 1) (v := .int .i32 yb) (by (repeat (first | rw [World.cell?_drew] | rw [World.cell?_alloc_past _ _ _ (by first | (simp; done) | (simp; omega))])); rw [World.cell?_alloc_at _ _ _ _ (by simp)]; rfl)
         have q2 := kept_cell g1 (b := w.heap.size + 1) (o := 2) (v := .int .i32 zb) (by (repeat (first | rw [World.cell?_drew] | rw [World.cell?_alloc_past _ _ _ (by first | (simp; done) | (simp; omega))])); rw [World.cell?_alloc_at _ _ _ _ (by simp)]; rfl)
         have q3 := kept_cell g1 (b := w.heap.size + 1) (o := 3) (v := .int .i32 tb) (by (repeat (first | rw [World.cell?_drew] | rw [World.cell?_alloc_past _ _ _ (by first | (simp; done) | (simp; omega))])); rw [World.cell?_alloc_at _ _ _ _ (by simp)]; rfl)
         have gg := grown_trans (((Grown.refl _).alloc _ _).alloc _ _) g1
         have zp_w1 : w.heap.size < w1.heap.size := World.block_lt_of_cell? _ _ p0
         have zq_w1 : w.heap.size + 1 < w1.heap.size := World.block_lt_of_cell? _ _ q0)
      | ((with_reducible refine (F1.out _).mono ?_); rintro e w2 ⟨rfl, g2⟩
         replace p0 := kept_cell g2 (b := w.heap.size) (o := 0) (v := .int .i32 xa) p0
         replace p1 := kept_cell g2 (b := w.heap.size) (o := 1) (v := .int .i32 ya) p1
         replace p2 := kept_cell g2 (b := w.heap.size) (o := 2) (v := .int .i32 za) p2
         replace p3 := kept_cell g2 (b := w.heap.size) (o := 3) (v := .int .i32 ta) p3
         replace q0 := kept_cell g2 (b := w.heap.size + 1) (o := 0) (v := .int .i32 xb) q0
         replace q1 := kept_cell g2 (b := w.heap.size + 1) (o := 1) (v := .int .i32 yb) q1
         replace q2 := kept_cell g2 (b := w.heap.size + 1) (o := 2) (v := .int .i32 zb) q2
         replace q3 := kept_cell g2 (b := w.heap.size + 1) (o := 3) (v := .int .i32 tb) q3
         replace gg := grown_trans gg g2
         have zp_w2 : w.heap.size < w2.heap.size := World.block_lt_of_cell? _ _ p0
         have zq_w2 : w.heap.size + 1 < w2.heap.size := World.block_lt_of_cell? _ _ q0)
      | ((with_reducible refine (F2.out _).mono ?_); rintro e w3 ⟨rfl, g3⟩
         replace p0 := kept_cell g3 (b := w.heap.size) (o := 0) (v := .int .i32 xa) (alloc_one p0)
         replace p1 := kept_cell g3 (b := w.heap.size) (o := 1) (v := .int .i32 ya) (alloc_one p1)
         replace p2 := kept_cell g3 (b := w.heap.size) (o := 2) (v := .int .i32 za) (alloc_one p2)
         replace p3 := kept_cell g3 (b := w.heap.size) (o := 3) (v := .int .i32 ta) (alloc_one p3)
         replace q0 := kept_cell g3 (b := w.heap.size + 1) (o := 0) (v := .int .i32 xb) (alloc_one q0)
         replace q1 := kept_cell g3 (b := w.heap.size + 1) (o := 1) (v := .int .i32 yb) (alloc_one q1)
         replace q2 := kept_cell g3 (b := w.heap.size + 1) (o := 2) (v := .int .i32 zb) (alloc_one q2)
         replace q3 := kept_cell g3 (b := w.heap.size + 1) (o := 3) (v := .int .i32 tb) (alloc_one q3)
         have r0 := kept_cell g3 (b := w2.heap.size) (o := 0) (v := .int .i32 xa) (by (repeat (first | rw [World.cell?_drew] | rw [World.cell?_alloc_past _ _ _ (by first | (simp; done) | (simp; omega))])); rw [World.cell?_alloc_at _ _ _ _ (by simp)]; rfl)
         have r1 := kept_cell g3 (b := w2.heap.size) (o := 1) (v := .int .i32 ya) (by (repeat (first | rw [World.cell?_drew] | rw [World.cell?_alloc_past _ _ _ (by first | (simp; done) | (simp; omega))])); rw [World.cell?_alloc_at _ _ _ _ (by simp)]; rfl)
         have r2 := kept_cell g3 (b := w2.heap.size) (o := 2) (v := .int .i32 za) (by (repeat (first | rw [World.cell?_drew] | rw [World.cell?_alloc_past _ _ _ (by first | (simp; done) | (simp; omega))])); rw [World.cell?_alloc_at _ _ _ _ (by simp)]; rfl)
         have r3 := kept_cell g3 (b := w2.heap.size) (o := 3) (v := .int .i32 ta) (by (repeat (first | rw [World.cell?_drew] | rw [World.cell?_alloc_past _ _ _ (by first | (simp; done) | (simp; omega))])); rw [World.cell?_alloc_at _ _ _ _ (by simp)]; rfl)
         replace gg := grown_trans (gg.alloc _ _) g3
         have zp_w3 : w.heap.size < w3.heap.size := World.block_lt_of_cell? _ _ p0
         have zq_w3 : w.heap.size + 1 < w3.heap.size := World.block_lt_of_cell? _ _ q0
         have zr_w3 : w2.heap.size < w3.heap.size := World.block_lt_of_cell? _ _ r0))
    go_region_held3 (fun w' => w'.cell? ⟨w.heap.size, 0, none⟩ = some (.int .i32 xa) ∧ w'.cell? ⟨w.heap.size, 1, none⟩ = some (.int .i32 ya) ∧ w'.cell? ⟨w.heap.size, 2, none⟩ = some (.int .i32 za) ∧ w'.cell? ⟨w.heap.size, 3, none⟩ = some (.int .i32 ta) ∧ w'.cell? ⟨w.heap.size + 1, 0, none⟩ = some (.int .i32 xb) ∧ w'.cell? ⟨w.heap.size + 1, 1, none⟩ = some (.int .i32 yb) ∧ w'.cell? ⟨w.heap.size + 1, 2, none⟩ = some (.int .i32 zb) ∧ w'.cell? ⟨w.heap.size + 1, 3, none⟩ = some (.int .i32 tb) ∧ w'.cell? ⟨w2.heap.size, 0, none⟩ = some (.int .i32 xa) ∧ w'.cell? ⟨w2.heap.size, 1, none⟩ = some (.int .i32 ya) ∧ w'.cell? ⟨w2.heap.size, 2, none⟩ = some (.int .i32 za) ∧ w'.cell? ⟨w2.heap.size, 3, none⟩ = some (.int .i32 ta) ∧ w'.cell? ⟨w3.heap.size, 0, none⟩ = some (.int .i32 xb) ∧ w'.cell? ⟨w3.heap.size, 1, none⟩ = some (.int .i32 yb) ∧ w'.cell? ⟨w3.heap.size, 2, none⟩ = some (.int .i32 zb) ∧ w'.cell? ⟨w3.heap.size, 3, none⟩ = some (.int .i32 tb) ∧ Grown w w')
      (first
        | (with_reducible assumption)
        | exact ⟨by rw [World.cell?_drew]; exact (alloc_one p0), by rw [World.cell?_drew]; exact (alloc_one p1), by rw [World.cell?_drew]; exact (alloc_one p2), by rw [World.cell?_drew]; exact (alloc_one p3), by rw [World.cell?_drew]; exact (alloc_one q0), by rw [World.cell?_drew]; exact (alloc_one q1), by rw [World.cell?_drew]; exact (alloc_one q2), by rw [World.cell?_drew]; exact (alloc_one q3), by rw [World.cell?_drew]; exact (alloc_one r0), by rw [World.cell?_drew]; exact (alloc_one r1), by rw [World.cell?_drew]; exact (alloc_one r2), by rw [World.cell?_drew]; exact (alloc_one r3), by (repeat (first | rw [World.cell?_drew] | rw [World.cell?_alloc_past _ _ _ (by first | (simp; done) | (simp; omega))])); rw [World.cell?_alloc_at _ _ _ _ (by simp)]; rfl, by (repeat (first | rw [World.cell?_drew] | rw [World.cell?_alloc_past _ _ _ (by first | (simp; done) | (simp; omega))])); rw [World.cell?_alloc_at _ _ _ _ (by simp)]; rfl, by (repeat (first | rw [World.cell?_drew] | rw [World.cell?_alloc_past _ _ _ (by first | (simp; done) | (simp; omega))])); rw [World.cell?_alloc_at _ _ _ _ (by simp)]; rfl, by (repeat (first | rw [World.cell?_drew] | rw [World.cell?_alloc_past _ _ _ (by first | (simp; done) | (simp; omega))])); rw [World.cell?_alloc_at _ _ _ _ (by simp)]; rfl, (gg.alloc _ _).drew⟩
        | (go_split_ands; exact ⟨kept_cell g (by assumption), kept_cell g (by assumption), kept_cell g (by assumption), kept_cell g (by assumption), kept_cell g (by assumption), kept_cell g (by assumption), kept_cell g (by assumption), kept_cell g (by assumption), kept_cell g (by assumption), kept_cell g (by assumption), kept_cell g (by assumption), kept_cell g (by assumption), kept_cell g (by assumption), kept_cell g (by assumption), kept_cell g (by assumption), kept_cell g (by assumption), grown_trans (by assumption) g⟩)
        | (go_split_ands; exact ⟨by rw [World.cell?_drew]; assumption, by rw [World.cell?_drew]; assumption, by rw [World.cell?_drew]; assumption, by rw [World.cell?_drew]; assumption, by rw [World.cell?_drew]; assumption, by rw [World.cell?_drew]; assumption, by rw [World.cell?_drew]; assumption, by rw [World.cell?_drew]; assumption, by rw [World.cell?_drew]; assumption, by rw [World.cell?_drew]; assumption, by rw [World.cell?_drew]; assumption, by rw [World.cell?_drew]; assumption, by rw [World.cell?_drew]; assumption, by rw [World.cell?_drew]; assumption, by rw [World.cell?_drew]; assumption, by rw [World.cell?_drew]; assumption, Grown.drew (by assumption)⟩))
      (first
      | ((with_reducible refine (O1.out _).mono ?_); rintro e w' ⟨rfl, g⟩)
      | ((with_reducible refine (O2.out _).mono ?_); rintro e w' ⟨rfl, g⟩)
      | ((with_reducible refine (M1.out _).mono ?_); rintro e w' ⟨rfl, g⟩)
      | ((with_reducible refine (M2.out _).mono ?_); rintro e w' ⟨rfl, g⟩)
      | ((with_reducible refine (U1.out _).mono ?_); rintro e w' ⟨rfl, g⟩)
      | ((with_reducible refine (U2.out _).mono ?_); rintro e w' ⟨rfl, g⟩)
      | ((with_reducible refine (O3.out _).mono ?_); rintro e w' ⟨rfl, g⟩)
      | ((with_reducible refine (E1.out _).mono ?_); rintro e w' ⟨rfl, g⟩))
    go_wp2_with fail
    go_ret
    exact ⟨rfl, by go_split_ands; assumption⟩
/-- The law BoxSymmetric. -/
theorem bsl_all (AW : BAwake) (O : BOps) (xa ya za ta xb yb zb tb : Int) (w : World) : Calls Try.prog 6 #[.agg #[.int .i32 xa, .int .i32 ya, .int .i32 za, .int .i32 ta], .agg #[.int .i32 xb, .int .i32 yb, .int .i32 zb, .int .i32 tb]] w fun e w' => e = .returned (.bool true) ∧ Grown w w' := by
  obtain ⟨⟨x, y, z, t⟩, hm⟩ : ∃ m, m = meeQ xa ya za ta xb yb zb tb := ⟨_, rfl⟩
  obtain ⟨⟨u, v, p, q⟩, hu⟩ : ∃ m, m = uniQ xa ya za ta xb yb zb tb := ⟨_, rfl⟩
  refine bsl_main (Lib.hid AW) xa ya za ta xb yb zb tb x y z t u v p q (ovlB xa ya za ta xb yb zb tb) (ovlB xa ya za ta xa ya za ta) (Lib.hid (O.overlap _ _ _ _ _ _ _ _)) (Lib.hid ?_) (Lib.hid (O.meet _ _ _ _ _ _ _ _ _ _ _ _ hm.symm)) (Lib.hid (O.meet _ _ _ _ _ _ _ _ _ _ _ _ ((mee_comm _ _ _ _ _ _ _ _).trans hm.symm))) (Lib.hid (O.union _ _ _ _ _ _ _ _ _ _ _ _ hu.symm)) (Lib.hid (O.union _ _ _ _ _ _ _ _ _ _ _ _ ((uni_comm _ _ _ _ _ _ _ _).trans hu.symm))) (Lib.hid (O.overlap _ _ _ _ _ _ _ _)) (Lib.hid (rem _ _ _ _ _ ?_)) w
  · have := O.overlap xb yb zb tb xa ya za ta
    rw [ovl_comm] at this
    exact this
  · rw [ovl_self]; simp
end Go.Proofs.Ytpbajmgjnpkgkaa
