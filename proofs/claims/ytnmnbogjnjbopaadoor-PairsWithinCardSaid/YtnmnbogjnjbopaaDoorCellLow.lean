import Derived.Test.YtnmnbogjnjbopaaDoorGrown
import Derived.Test.YtnmnbogjnjbopaaDoorFxAll
import Derived.Test.YtnmnbogjnjbopaaDoorBoxAll
import Derived.Deep.DeepCutAuto
import Derived.Deep.QuietTactic
import Derived.BigQuiet
import Derived.StillTailTactics

/-! CellLow: CellMath, CellRef. -/

section
/-
  Package cell: cells and buckets as numbers (no program).
-/
namespace Go.Proofs.YtnmnbogjnjbopaaDoor

/-- A row's first n cells, from column c on. -/
def rowC (c r : Int) (n : Nat) : List (Int × Int) := (List.range n).map fun (i : Nat) => (c + (i : Int), r)
/-- m rows of n cells. -/
def allC (c r : Int) (n m : Nat) : List (Int × Int) := (List.range m).flatMap fun (j : Nat) => rowC c (r + (j : Int)) n
theorem rowC_zero (c r : Int) : rowC c r 0 = [] := rfl
theorem rowC_succ (c r : Int) (n : Nat) : rowC c r (n + 1) = rowC c r n ++ [(c + (n : Int), r)] := by simp [rowC, List.range_succ]
theorem allC_succ (c r : Int) (n m : Nat) : allC c r n (m + 1) = allC c r n m ++ rowC c (r + (m : Int)) n := by simp [allC, List.range_succ]
theorem rowC_len (c r : Int) (n : Nat) : (rowC c r n).length = n := by simp [rowC]
theorem allC_len (c r : Int) (n : Nat) : ∀ m : Nat, (allC c r n m).length = m * n
  | 0 => by simp [allC]
  | m + 1 => by rw [allC_succ, List.length_append, rowC_len, allC_len c r n m, Nat.succ_mul]
theorem rowC_mem {c r x y : Int} {n : Nat} : (x, y) ∈ rowC c r n ↔ (c ≤ x ∧ x < c + (n : Int)) ∧ y = r := by
  simp only [rowC, List.mem_map, List.mem_range, Prod.mk.injEq]
  constructor
  · rintro ⟨i, h, h1, h2⟩
    exact ⟨by omega, h2.symm⟩
  · rintro ⟨⟨h1, h2⟩, h3⟩
    exact ⟨(x - c).toNat, by omega, by omega, h3.symm⟩
theorem allC_mem {c r x y : Int} {n m : Nat} : (x, y) ∈ allC c r n m ↔ (c ≤ x ∧ x < c + (n : Int)) ∧ (r ≤ y ∧ y < r + (m : Int)) := by
  simp only [allC, List.mem_flatMap, List.mem_range, rowC_mem]
  constructor
  · rintro ⟨j, h, h1, h2⟩
    exact ⟨h1, by omega⟩
  · rintro ⟨h1, h2, h3⟩
    exact ⟨(y - r).toNat, by omega, h1, by omega⟩
/-- One bit more of an exclusive or. -/
theorem xor_step (a b i : Nat) : (a ^^^ b) % 2 ^ (i + 1) = (a ^^^ b) % 2 ^ i + if a / 2 ^ i % 2 ≠ b / 2 ^ i % 2 then 2 ^ i else 0 := by
  rw [Nat.mod_pow_succ]
  have e : (a ^^^ b) / 2 ^ i % 2 = ((a ^^^ b).testBit i).toNat := (Nat.toNat_testBit _ _).symm
  rw [e, Nat.testBit_xor, ← Nat.toNat_testBit a, ← Nat.toNat_testBit b]
  cases a.testBit i <;> cases b.testBit i <;> simp
theorem xor_all {a b : Nat} (ha : a < 2 ^ 32) (hb : b < 2 ^ 32) : (a ^^^ b) % 2 ^ 32 = a ^^^ b := Nat.mod_eq_of_lt (Nat.xor_lt_two_pow ha hb)
/-- The column of a number. -/
def colN (n : Int) : Int := n / 4194304
theorem colN_in {n : Int} (h : -2147483648 ≤ n ∧ n < 2147483648) : -512 ≤ colN n ∧ colN n ≤ 511 := by unfold colN; omega
theorem colN_le {a b : Int} (h : a ≤ b) : colN a ≤ colN b := by unfold colN; omega
end Go.Proofs.YtnmnbogjnjbopaaDoor
end

section
/-
  Package cell: its slow reference (but All).
-/
namespace Go.Proofs.YtnmnbogjnjbopaaDoor
open Go.RowKit Go.Lib

abbrev RCl (n q : Int) : Prop := ∀ w, Calls Tryd.prog 64 #[.int .i32 n] w fun e w' => e = .returned (.int .i32 q) ∧ w = w'
theorem rcl {n : Int} (h : -2147483648 ≤ n ∧ n < 2147483648) : RCl n (colN n) := fun w => by
  have C := Lib.hid (fun w => reffl_any n 4194304 ⟨by omega, by omega⟩ (by omega) (by omega) w)
  have hc := colN_in h
  unfold colN at *
  generalize n / 4194304 = q at C hc ⊢
  have e : IntKind.i32.wrap q = q := by rw [IntKind.wrap_i32]; omega
  go_enter Tryd.func64, Tryd.ntmps64
  go_wp2_with ((with_reducible refine (C.out _).mono ?_); rintro e w' ⟨rfl, rfl⟩)
  go_ret
  exact ⟨rfl, rfl⟩
abbrev RCe (x y p q : Int) : Prop := ∀ w, Calls Tryd.prog 52 #[.agg #[.int .i32 x, .int .i32 y]] w fun e w' => e = .returned (.agg #[.int .i32 p, .int .i32 q]) ∧ Grown w w'
set_option maxRecDepth 100000 in
theorem rce (x y p q : Int) (C1 : Hid (RCl x p)) (C2 : Hid (RCl y q)) : RCe x y p q := fun w => by
  go_enter Tryd.func52, Tryd.ntmps52
  go_wp2_with fail
  generalize hW : World.alloc (World.alloc w _) _ = W1
  have p0 : W1.cell? ⟨w.heap.size, 0, none⟩ = some (.int .i32 x) := by rw [← hW]; (repeat (first | rw [World.cell?_drew] | rw [World.cell?_alloc_past _ _ _ (by first | (simp; done) | (simp; omega))])); rw [World.cell?_alloc_at _ _ _ _ (by simp)]; rfl
  have p1 : W1.cell? ⟨w.heap.size, 1, none⟩ = some (.int .i32 y) := by rw [← hW]; (repeat (first | rw [World.cell?_drew] | rw [World.cell?_alloc_past _ _ _ (by first | (simp; done) | (simp; omega))])); rw [World.cell?_alloc_at _ _ _ _ (by simp)]; rfl
  have z0 : W1.cell? ⟨w.heap.size + 1, 0, none⟩ = some (.int .i32 0) := by rw [← hW]; (repeat (first | rw [World.cell?_drew] | rw [World.cell?_alloc_past _ _ _ (by first | (simp; done) | (simp; omega))])); rw [World.cell?_alloc_at _ _ _ _ (by simp)]; rfl
  have z1 : W1.cell? ⟨w.heap.size + 1, 1, none⟩ = some (.int .i32 0) := by rw [← hW]; (repeat (first | rw [World.cell?_drew] | rw [World.cell?_alloc_past _ _ _ (by first | (simp; done) | (simp; omega))])); rw [World.cell?_alloc_at _ _ _ _ (by simp)]; rfl
  have fz0 : W1.frozen? ⟨w.heap.size + 1, 0, none⟩ = false := by rw [← hW, World.frozen?_alloc_at _ _ _ _ (by simp)]
  have fz1 : W1.frozen? ⟨w.heap.size + 1, 1, none⟩ = false := by rw [← hW, World.frozen?_alloc_at _ _ _ _ (by simp)]
  have gg : Grown w W1 := by rw [← hW]; exact ((Grown.refl _).alloc _ _).alloc _ _
  clear hW
  refine wp_region_still_tail 7 (by kernel_rfl) (by kernel_rfl) ?_
  simp only [List.take_succ_cons, List.take_zero, List.drop_succ_cons, List.drop_zero]
  repeat still_step
  still_call ((C1.out _).mono fun _ _ h => ⟨h.1, h.2.symm⟩)
  repeat still_step
  still_call ((C2.out _).mono fun _ _ h => ⟨h.1, h.2.symm⟩)
  repeat still_step
  try refine wpStill_nil ?_
  go_wp2_with fail
  exact bodyPost_ret (v := .agg #[.int .i32 p, .int .i32 q]) (by simp [results, Tryd.results52, go_sem, z0, z1]) rfl ⟨rfl, (gg.drew.setCell (by dsimp only; omega) _).setCell (by dsimp only; omega) _⟩
abbrev RCt (xa ya za ta n : Int) : Prop := ∀ w, Calls Tryd.prog 38 #[.agg #[.int .i32 xa, .int .i32 ya, .int .i32 za, .int .i32 ta]] w fun e w' => e = .returned (.int .i64 n) ∧ Grown w w'
theorem rct_no (xa ya za ta : Int) (h : za < xa ∨ ta < ya) : RCt xa ya za ta 0 := fun w => by
  have E1 := Lib.hid (rem xa ya za ta true (decide_eq_true h))
  clear h
  go_enter Tryd.func38, Tryd.ntmps38
  go_wp2_with (first
    | ((with_reducible refine (E1.out _).mono ?_); rintro e w1 ⟨rfl, g1⟩
       have p0 := kept_cell g1 (b := w.heap.size) (o := 0) (v := .int .i32 xa) (by (repeat (first | rw [World.cell?_drew] | rw [World.cell?_alloc_past _ _ _ (by first | (simp; done) | (simp; omega))])); rw [World.cell?_alloc_at _ _ _ _ (by simp)]; rfl)
       have p1 := kept_cell g1 (b := w.heap.size) (o := 1) (v := .int .i32 ya) (by (repeat (first | rw [World.cell?_drew] | rw [World.cell?_alloc_past _ _ _ (by first | (simp; done) | (simp; omega))])); rw [World.cell?_alloc_at _ _ _ _ (by simp)]; rfl)
       have p2 := kept_cell g1 (b := w.heap.size) (o := 2) (v := .int .i32 za) (by (repeat (first | rw [World.cell?_drew] | rw [World.cell?_alloc_past _ _ _ (by first | (simp; done) | (simp; omega))])); rw [World.cell?_alloc_at _ _ _ _ (by simp)]; rfl)
       have p3 := kept_cell g1 (b := w.heap.size) (o := 3) (v := .int .i32 ta) (by (repeat (first | rw [World.cell?_drew] | rw [World.cell?_alloc_past _ _ _ (by first | (simp; done) | (simp; omega))])); rw [World.cell?_alloc_at _ _ _ _ (by simp)]; rfl)
       have gg := grown_trans ((Grown.refl _).alloc _ _) g1))
  go_ret
  exact ⟨rfl, gg⟩
set_option maxRecDepth 100000 in
set_option maxHeartbeats 2000000 in
theorem rct_yes (xa ya za ta p q u v n m c : Int) (E1 : Hid (REm xa ya za ta false)) (C1 : Hid (RCl za u)) (C2 : Hid (RCl xa p)) (C3 : Hid (RCl ta v)) (C4 : Hid (RCl ya q)) (h1 : IntKind.i64.wrap (u - p) = u - p) (h2 : IntKind.i64.wrap (u - p + 1) = n) (h3 : IntKind.i64.wrap (v - q) = v - q) (h4 : IntKind.i64.wrap (v - q + 1) = m) (h5 : IntKind.i64.wrap (n * m) = c)
    (k1 : IntKind.i64.wrap u = u) (k2 : IntKind.i64.wrap p = p) (k3 : IntKind.i64.wrap v = v) (k4 : IntKind.i64.wrap q = q) : RCt xa ya za ta c := fun w => by
  go_enter Tryd.func38, Tryd.ntmps38
  go_wp2_with (first
    | ((with_reducible refine (E1.out _).mono ?_); rintro e w1 ⟨rfl, g1⟩
       have p0 := kept_cell g1 (b := w.heap.size) (o := 0) (v := .int .i32 xa) (by (repeat (first | rw [World.cell?_drew] | rw [World.cell?_alloc_past _ _ _ (by first | (simp; done) | (simp; omega))])); rw [World.cell?_alloc_at _ _ _ _ (by simp)]; rfl)
       have p1 := kept_cell g1 (b := w.heap.size) (o := 1) (v := .int .i32 ya) (by (repeat (first | rw [World.cell?_drew] | rw [World.cell?_alloc_past _ _ _ (by first | (simp; done) | (simp; omega))])); rw [World.cell?_alloc_at _ _ _ _ (by simp)]; rfl)
       have p2 := kept_cell g1 (b := w.heap.size) (o := 2) (v := .int .i32 za) (by (repeat (first | rw [World.cell?_drew] | rw [World.cell?_alloc_past _ _ _ (by first | (simp; done) | (simp; omega))])); rw [World.cell?_alloc_at _ _ _ _ (by simp)]; rfl)
       have p3 := kept_cell g1 (b := w.heap.size) (o := 3) (v := .int .i32 ta) (by (repeat (first | rw [World.cell?_drew] | rw [World.cell?_alloc_past _ _ _ (by first | (simp; done) | (simp; omega))])); rw [World.cell?_alloc_at _ _ _ _ (by simp)]; rfl)
       have gg := grown_trans ((Grown.refl _).alloc _ _) g1))
  go_quiet (first | (go_at_call 64; refine Calls.quiet_of_same ((C1.out _).mono fun _ _ h => ⟨h.1, h.2.symm⟩)) | (go_at_call 64; refine Calls.quiet_of_same ((C2.out _).mono fun _ _ h => ⟨h.1, h.2.symm⟩)) | (go_at_call 64; refine Calls.quiet_of_same ((C3.out _).mono fun _ _ h => ⟨h.1, h.2.symm⟩)) | (go_at_call 64; refine Calls.quiet_of_same ((C4.out _).mono fun _ _ h => ⟨h.1, h.2.symm⟩)))
  go_wp2_with fail
  go_ret
  exact ⟨rfl, by first | exact gg | exact (gg.drewN _)⟩
abbrev RXo (a b c : Int) : Prop := ∀ w, Calls Tryd.prog 73 #[.int .u32 a, .int .u32 b] w fun e w' => e = .returned (.int .u32 c) ∧ Grown w w'
theorem drawn_grown (w : World) : ∀ j : Nat, Grown w (w.drewN j)
  | 0 => Grown.refl _
  | j + 1 => (drawn_grown w j).drew
set_option maxRecDepth 100000 in
set_option maxHeartbeats 2000000 in
theorem rxo (a b : Nat) (ha : a < 2 ^ 32) (hb : b < 2 ^ 32) : RXo a b ((a ^^^ b : Nat) : Int) := fun w => by
  go_enter Tryd.func73, Tryd.ntmps73
  go_wp2_with fail
  go_loopw [5, 6, 7] (fun o q i wr => ∃ k : Nat, k ≤ 32 ∧ i = .int .i64 k ∧ o = .int .u32 (((a ^^^ b) % 2 ^ k : Nat) : Int) ∧ q = .int .u32 ((2 ^ k % 2 ^ 32 : Nat) : Int) ∧ ∃ j, wr = w.drewN j) (fun _ _ i _ => 32 - (RowKit.intOf i).toNat)
  case atStart => exact ⟨0, by omega, rfl, by simp [Nat.mod_one], by simp, 0, rfl⟩
  case round =>
    obtain ⟨k, hk, rfl, rfl, rfl, j, rfl⟩ := hrel
    by_cases hlt : k < 32
    · have hp : 2 ^ k < 2 ^ 32 := Nat.pow_lt_pow_right (by omega) hlt
      have hp0 : 0 < 2 ^ k := Nat.pow_pos (by omega)
      have st := xor_step a b k
      have hx : (a ^^^ b) % 2 ^ k < 2 ^ k := Nat.mod_lt _ hp0
      have hp2 : 2 ^ (k + 1) = 2 * 2 ^ k := by rw [Nat.pow_succ]; omega
      have hp3 : 2 ^ (k + 1) ≤ 2 ^ 32 := Nat.pow_le_pow_right (by omega) hlt
      rw [Nat.mod_eq_of_lt hp]
      obtain ⟨P, hP⟩ : ∃ P, P = 2 ^ k := ⟨_, rfl⟩
      obtain ⟨O, hO⟩ : ∃ O, O = (a ^^^ b) % 2 ^ k := ⟨_, rfl⟩
      obtain ⟨O2, hO2⟩ : ∃ O2, O2 = (a ^^^ b) % 2 ^ (k + 1) := ⟨_, rfl⟩
      rw [← hP] at hp hp0 hx hp2 st ⊢
      rw [← hO2] at st
      rw [← hP] at hO
      rw [← hO] at hx st ⊢
      have hbz : ((P : Int) == 0) = false := beq_eq_false_iff_ne.2 (by omega)
      have d1 : Int.tdiv (a : Int) (P : Int) = ((a / P : Nat) : Int) := rfl
      have d2 : Int.tdiv (b : Int) (P : Int) = ((b / P : Nat) : Int) := rfl
      have m1 : ((a / P : Nat) : Int) % 2 = ((a / P % 2 : Nat) : Int) := rfl
      have m2 : ((b / P : Nat) : Int) % 2 = ((b / P % 2 : Nat) : Int) := rfl
      generalize a / P = A at d1 m1 st
      generalize b / P = B at d2 m2 st
      generalize A % 2 = u at m1 st
      generalize B % 2 = v at m2 st
      have wm : IntKind.u32.wrap (2 * (P : Int)) = ((2 ^ (k + 1) % 2 ^ 32 : Nat) : Int) := by rw [hp2, IntKind.wrap_u32]; omega
      have wl : 2 * P ≤ 2 ^ 32 := by omega
      clear hp2 hp3 hO hP
      by_cases huv : u = v
      · subst huv
        have t : ((u : Int) != (u : Int)) = false := by simp
        rw [if_neg (by simp)] at st
        go_wp2_with fail
        go_quiet (fail)
        go_wp2_with fail
        go_roundw
        case rel => exact ⟨k + 1, by omega, by go_num, by rw [← hO2, st]; simp, by simp, _, rfl⟩
        case measure => simp [RowKit.intOf]; omega
      · have t : ((u : Int) != (v : Int)) = true := bne_iff_ne.2 (by omega)
        rw [if_pos huv] at st
        have wa : IntKind.u32.wrap ((O : Int) + (P : Int)) = (O2 : Int) := by rw [st, IntKind.wrap_u32]; omega
        go_wp2_with fail
        go_quiet (fail)
        go_wp2_with fail
        go_roundw
        case rel => exact ⟨k + 1, by omega, by go_num, by simp, by simp, _, rfl⟩
        case measure => simp [RowKit.intOf]; omega
    · obtain rfl : k = 32 := by omega
      rw [xor_all ha hb]
      go_wp2_with fail
      go_ret
      exact ⟨rfl, drawn_grown _ _⟩
abbrev RBk (x y c : Int) : Prop := ∀ w, Calls Tryd.prog 51 #[.agg #[.int .i32 x, .int .i32 y]] w fun e w' => e = .returned (.int .i64 c) ∧ Grown w w'
/-- The bucket of a cell. -/
def bktN (x y : Int) : Int := (((x % 4294967296 * 73856093 % 4294967296).toNat ^^^ (y % 4294967296 * 19349663 % 4294967296).toNat : Nat) : Int) % 1024
theorem rbk_walk (x y x1 y1 q c : Int) (a b : Nat) (h1 : IntKind.u32.wrap x = x1) (h2 : IntKind.u32.wrap (x1 * 73856093) = (a : Int)) (h3 : IntKind.u32.wrap y = y1) (h4 : IntKind.u32.wrap (y1 * 19349663) = (b : Int)) (C : Hid (RXo a b q)) (h6 : IntKind.i64.wrap c = c) (h8 : Int.tmod q 1024 = c) : RBk x y c := fun w => by
  go_enter Tryd.func51, Tryd.ntmps51
  go_wp2_with ((with_reducible refine (C.out _).mono ?_); rintro e w1 ⟨rfl, g1⟩; have gg := grown_trans ((Grown.refl _).alloc _ _) g1)
  go_ret
  exact ⟨rfl, gg⟩
theorem to_nat32 (n : Int) : ∃ a : Nat, n % 4294967296 = (a : Int) ∧ a < 4294967296 := ⟨(n % 4294967296).toNat, by omega, by omega⟩
theorem small_i64 (n : Nat) : IntKind.i64.wrap ((n : Int) % 1024) = (n : Int) % 1024 := by rw [IntKind.wrap_i64]; omega
theorem rbk (x y : Int) : RBk x y (bktN x y) := by
  obtain ⟨a, ha, la⟩ := to_nat32 (x % 4294967296 * 73856093)
  obtain ⟨b, hb, lb⟩ := to_nat32 (y % 4294967296 * 19349663)
  have e : bktN x y = ((a ^^^ b : Nat) : Int) % 1024 := by unfold bktN; rw [ha, hb, Int.toNat_natCast, Int.toNat_natCast]
  rw [e]
  have C := Lib.hid (rxo a b la lb)
  generalize a ^^^ b = q at C
  exact rbk_walk x y _ _ _ _ a b (IntKind.wrap_u32 _) ((IntKind.wrap_u32 _).trans ha) (IntKind.wrap_u32 _) ((IntKind.wrap_u32 _).trans hb) C (small_i64 q) (Int.tmod_eq_emod_of_nonneg (Int.natCast_nonneg _))
end Go.Proofs.YtnmnbogjnjbopaaDoor
end
