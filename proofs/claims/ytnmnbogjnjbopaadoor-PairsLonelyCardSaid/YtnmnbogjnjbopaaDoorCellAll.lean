/-
  Package cell: the reference's All; lists of cells that are the same.
-/
import Derived.Test.YtnmnbogjnjbopaaDoorCellLow
import Derived.Test.YtnmnbogjnjbopaaDoorSeq
namespace Go.Proofs.YtnmnbogjnjbopaaDoor
open Go.RowKit Go.Lib

/-- A cell's two values. -/
def cv (c : Int × Int) : List Value := [.int .i32 c.1, .int .i32 c.2]
theorem cv_len (c : Int × Int) : (cv c).length = 2 := rfl
theorem cv_one (c : Int × Int) : ∀ u ∈ cv c, u.oneCell' = true := by
  intro u hu
  simp only [cv, List.mem_cons, List.not_mem_nil, or_false] at hu
  rcases hu with rfl | rfl <;> rfl
theorem cell_neq (a b : Int) (w : World) : (binOp .neq 92 (.agg #[.int .i32 a, .int .i32 b]) (.agg #[.int .i32 a, .int .i32 b])).run Tryd.prog w = .ok (.bool false) w := by simp [go_sem]
theorem kep_grownN (w : World) (j : Nat) : Kep w.heap.size w (w.drewN j) := kep_drewN (Kep.refl _ _) j
theorem info_cell : (Tryd.prog.info? 95).map (fun i => (i.zero, i.size, i.bytes)) = some (some (.agg #[.int .i32 0, .int .i32 0]), 2, 8) := by kernel_rfl
/-- What the loops' list is after j rows and i cells. -/
def AllRel (B : Nat) (L : List (Int × Int)) (w1 : World) (out : Value) (wr : World) : Prop := wr.ownsRow B 95 2 out L.length (L.flatMap cv) ∧ Kep B w1 wr
theorem AllRel.size {B : Nat} {L : List (Int × Int)} {w1 : World} {out : Value} {wr : World} (h : AllRel B L w1 out wr) (hb : B ≤ w1.heap.size) : B ≤ wr.heap.size := Nat.le_trans hb h.2.size
theorem AllRel.cell {B : Nat} {L : List (Int × Int)} {w1 : World} {out : Value} {wr : World} (h : AllRel B L w1 out wr) {b o : Nat} {v : Value} (hp : b < B) (hv : w1.cell? ⟨b, o, none⟩ = some v) : wr.cell? ⟨b, o, none⟩ = some v := h.2.holds hp hv
abbrev RAl (xa ya za ta : Int) (L : List (Int × Int)) : Prop := ∀ w, Calls Tryd.prog 72 #[.agg #[.int .i32 xa, .int .i32 ya, .int .i32 za, .int .i32 ta]] w fun e w' => ∃ v, e = .returned v ∧ Sq cv 2 w' v L ∧ Kep w.heap.size w w'
theorem ral_no (xa ya za ta : Int) (h : za < xa ∨ ta < ya) : RAl xa ya za ta [] := fun w => by
  have E1 := Lib.hid (rem xa ya za ta true (decide_eq_true h))
  clear h
  go_enter Tryd.func72, Tryd.ntmps72
  go_wp2_with ((with_reducible refine (E1.out _).mono ?_); rintro e w1 ⟨rfl, g1⟩; have gg := grown_trans ((Grown.refl _).alloc _ _) g1)
  go_ret
  exact ⟨_, rfl, Sq.nil, Kep.of_grown gg⟩

set_option maxRecDepth 100000 in
set_option maxHeartbeats 4000000 in
theorem ral_walk (xa ya za ta p q u v : Int) (n m : Nat) (E1 : Hid (REm xa ya za ta false)) (C1 : Hid (RCl xa p)) (C2 : Hid (RCl ya q)) (C3 : Hid (RCl za u)) (C4 : Hid (RCl ta v)) (hn : u = p + n - 1) (hm : v = q + m - 1)
    (hp : -512 ≤ p) (hq : -512 ≤ q) (hu : u ≤ 511) (hv : v ≤ 511) (hnm : m * n ≤ 1000000) : RAl xa ya za ta (allC p q n m) := fun w => by
  go_enter Tryd.func72, Tryd.ntmps72
  go_wp2_with (first
    | ((with_reducible refine (E1.out _).mono ?_); rintro e w1 ⟨rfl, g1⟩
       have z0 := kept_cell g1 (b := w.heap.size) (o := 0) (v := .int .i32 xa) (by rw [World.cell?_alloc_at _ _ _ _ (by simp)]; rfl)
       have z1 := kept_cell g1 (b := w.heap.size) (o := 1) (v := .int .i32 ya) (by rw [World.cell?_alloc_at _ _ _ _ (by simp)]; rfl)
       have z2 := kept_cell g1 (b := w.heap.size) (o := 2) (v := .int .i32 za) (by rw [World.cell?_alloc_at _ _ _ _ (by simp)]; rfl)
       have z3 := kept_cell g1 (b := w.heap.size) (o := 3) (v := .int .i32 ta) (by rw [World.cell?_alloc_at _ _ _ _ (by simp)]; rfl)
       have gg := grown_trans ((Grown.refl _).alloc _ _) g1)
    | ((with_reducible refine (C2.out _).mono ?_); rintro e w' ⟨rfl, rfl⟩))
  have hB : w.heap.size + 1 ≤ w1.heap.size := World.block_lt_of_cell? _ _ z0
  have K0 : Kep w.heap.size w w1 := Kep.of_grown gg
  clear gg g1
  go_loopw [3, 4, 5] (fun out y _ wr => ∃ j : Nat, j ≤ m ∧ y = .int .i32 (q + j) ∧ Hid (AllRel (w.heap.size + 1) (allC p q n j) w1 out wr)) (fun _ y _ _ => m - (RowKit.intOf y - q).toNat)
  case atStart => exact ⟨0, Nat.zero_le _, by simp, Lib.hid ⟨World.ownsRow_nil _ _ _ _, Kep.refl _ _⟩⟩
  case round =>
    obtain ⟨j, hj, rfl, HP⟩ := hrel
    have y0 := HP.out.cell (Nat.lt_succ_self w.heap.size) z0
    have y3 := HP.out.cell (Nat.lt_succ_self w.heap.size) z3
    by_cases hlt : j < m
    · have hle : q + (j : Int) ≤ v := by omega
      go_wp2_with (first
        | ((with_reducible refine (C4.out _).mono ?_); rintro e w' ⟨rfl, rfl⟩)
        | ((with_reducible refine (C1.out _).mono ?_); rintro e w' ⟨rfl, rfl⟩))
      obtain ⟨wd, hwd⟩ : ∃ x, x = wr := ⟨_, rfl⟩
      subst hwd
      go_loopw [3, 5] (fun out x wr => ∃ i : Nat, i ≤ n ∧ x = .int .i32 (p + i) ∧ Hid (AllRel (w.heap.size + 1) (allC p q n j ++ rowC p (q + j) i) w1 out wr)) (fun _ x _ => n - (RowKit.intOf x - p).toNat)
      case atStart => exact ⟨0, Nat.zero_le _, by simp, by rw [rowC_zero, List.append_nil]; exact HP⟩
      case round =>
        obtain ⟨i, hi, rfl, HR⟩ := hrel
        have x2 := HR.out.cell (Nat.lt_succ_self w.heap.size) z2
        have hBr := HR.out.size hB
        by_cases hlt2 : i < n
        · have hle2 : p + (i : Int) ≤ u := by omega
          have hlen : (allC p q n j ++ rowC p (q + j) i).length + 1 ≤ 1000001 := by
            rw [List.length_append, allC_len, rowC_len]
            have := Nat.mul_le_mul_right n (show j + 1 ≤ m by omega)
            rw [Nat.succ_mul] at this
            omega
          have ei : IntKind.i32.wrap (p + (i : Int) + 1) = p + ((i + 1 : Nat) : Int) := by rw [IntKind.wrap_i32]; omega
          go_wp2_with (first
            | ((with_reducible refine (C3.out _).mono ?_); rintro e w' ⟨rfl, rfl⟩)
            | (at_builtin; refine wpList_app cv 2 cv_len cv_one rfl _ _ 119 rfl 95 _ 8 Tryd.underlying119 info_cell rfl (by decide) (w.heap.size + 1) _ _ _ (p + (i : Int), q + (j : Int)) rfl HR.out.1 _ (by first | rfl | simp) rfl _ rfl (by unfold maxLen; omega) (by omega) hBr ?_; intro v2 w2 o2 k2))
          have M : AllRel (w.heap.size + 1) (allC p q n j ++ rowC p (q + j) (i + 1)) w1 v2 w2 := by
            rw [rowC_succ, ← List.append_assoc]
            exact ⟨o2, HR.out.2.trans k2⟩
          have HM := Lib.hid M
          clear o2 k2 M
          go_roundw
          case rel => exact ⟨i + 1, by omega, rfl, HM⟩
          case measure => simp [RowKit.intOf]; omega
        · have hle2 : ¬ p + (i : Int) ≤ u := by omega
          obtain rfl : i = n := by omega
          have ej : IntKind.i32.wrap (q + (j : Int) + 1) = q + ((j + 1 : Nat) : Int) := by rw [IntKind.wrap_i32]; omega
          have HM := HR
          rw [← allC_succ] at HM
          go_wp2_with ((with_reducible refine (C3.out _).mono ?_); rintro e w' ⟨rfl, rfl⟩)
          go_roundw
          case rel => exact ⟨j + 1, by omega, rfl, HM⟩
          case measure => simp [RowKit.intOf]; omega
    · have hle : ¬ q + (j : Int) ≤ v := by omega
      obtain rfl : j = m := by omega
      go_wp2_with ((with_reducible refine (C4.out _).mono ?_); rintro e w' ⟨rfl, rfl⟩)
      go_ret
      exact ⟨_, rfl, own_sq cv_len HP.out.1, K0.trans (HP.out.2.mono (by omega))⟩
end Go.Proofs.YtnmnbogjnjbopaaDoor
