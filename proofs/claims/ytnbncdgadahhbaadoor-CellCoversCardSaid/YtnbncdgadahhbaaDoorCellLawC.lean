/-
  Package cell: the law CellCovers.
-/
import Derived.Test.YtnbncdgadahhbaaDoorCellCon
import Derived.Deep.DeepCutAuto
namespace Go.Proofs.YtnbncdgadahhbaaDoor
open Go.RowKit Go.Lib

set_option maxRecDepth 100000 in
set_option maxHeartbeats 2000000 in
theorem ccl_big (xa ya za ta x y c : Int) (AW : Hid CAwake) (N1 : Hid (KCt xa ya za ta c)) (hc : decide (4000 < c) = true) (w : World) (F0 : Fac w) : Calls Tryd.prog 4 #[.agg #[.int .i32 xa, .int .i32 ya, .int .i32 za, .int .i32 ta], .agg #[.int .i32 x, .int .i32 y]] w fun e w' => e = .returned (.bool true) ∧ Kep w.heap.size w w' := by
  go_enter Tryd.func4, Tryd.ntmps4
  go_wp2_with (first
    | ((with_reducible refine (AW.out _ (F0.kep (by (repeat (first | with_reducible assumption | refine kep_more ?_ _ | refine kep_drew ?_ | exact Kep.refl _ _))))).mono ?_); rintro e w1 ⟨rfl, g1⟩
       first
         | (replace gg := kep_next gg g1)
         | (have i0 := Kep.all g1 (a := ⟨w.heap.size, 0, none⟩) (v := .int .i32 xa) (by (repeat (first | rw [World.cell?_drew] | rw [World.cell?_alloc_past _ _ _ (by first | (simp; done) | (simp; omega))])); rw [World.cell?_alloc_at _ _ _ _ (by simp)]; rfl)
            have i1 := Kep.all g1 (a := ⟨w.heap.size, 1, none⟩) (v := .int .i32 ya) (by (repeat (first | rw [World.cell?_drew] | rw [World.cell?_alloc_past _ _ _ (by first | (simp; done) | (simp; omega))])); rw [World.cell?_alloc_at _ _ _ _ (by simp)]; rfl)
            have i2 := Kep.all g1 (a := ⟨w.heap.size, 2, none⟩) (v := .int .i32 za) (by (repeat (first | rw [World.cell?_drew] | rw [World.cell?_alloc_past _ _ _ (by first | (simp; done) | (simp; omega))])); rw [World.cell?_alloc_at _ _ _ _ (by simp)]; rfl)
            have i3 := Kep.all g1 (a := ⟨w.heap.size, 3, none⟩) (v := .int .i32 ta) (by (repeat (first | rw [World.cell?_drew] | rw [World.cell?_alloc_past _ _ _ (by first | (simp; done) | (simp; omega))])); rw [World.cell?_alloc_at _ _ _ _ (by simp)]; rfl)
            have n0 := Kep.all g1 (a := ⟨w.heap.size + 1, 0, none⟩) (v := .int .i32 x) (by (repeat (first | rw [World.cell?_drew] | rw [World.cell?_alloc_past _ _ _ (by first | (simp; done) | (simp; omega))])); rw [World.cell?_alloc_at _ _ _ _ (by simp)]; rfl)
            have n1 := Kep.all g1 (a := ⟨w.heap.size + 1, 1, none⟩) (v := .int .i32 y) (by (repeat (first | rw [World.cell?_drew] | rw [World.cell?_alloc_past _ _ _ (by first | (simp; done) | (simp; omega))])); rw [World.cell?_alloc_at _ _ _ _ (by simp)]; rfl)
            have gg := kep_next (kep_more (kep_more (Kep.refl _ _) _) _) g1))
    | ((with_reducible refine (N1.out _).mono ?_); rintro e w2 ⟨rfl, g2⟩
       replace i0 := Kep.all g2 (a := ⟨w.heap.size, 0, none⟩) (v := .int .i32 xa) i0
       replace i1 := Kep.all g2 (a := ⟨w.heap.size, 1, none⟩) (v := .int .i32 ya) i1
       replace i2 := Kep.all g2 (a := ⟨w.heap.size, 2, none⟩) (v := .int .i32 za) i2
       replace i3 := Kep.all g2 (a := ⟨w.heap.size, 3, none⟩) (v := .int .i32 ta) i3
       replace n0 := Kep.all g2 (a := ⟨w.heap.size + 1, 0, none⟩) (v := .int .i32 x) n0
       replace n1 := Kep.all g2 (a := ⟨w.heap.size + 1, 1, none⟩) (v := .int .i32 y) n1
       replace gg := kep_next gg g2
       have zi_w2 : w.heap.size < w2.heap.size := World.block_lt_of_cell? _ _ i0
       have zn_w2 : w.heap.size + 1 < w2.heap.size := World.block_lt_of_cell? _ _ n0))
  go_ret
  exact ⟨rfl, gg⟩
/-- Whether (p, q) is among the first k cells. -/
def seen (L : List (Int × Int)) (p q : Int) (k : Nat) : Bool := (L.take k).contains (p, q)
theorem seen_succ {L : List (Int × Int)} {p q : Int} {k : Nat} {x : Int × Int} (h : L[k]? = some x) : seen L p q (k + 1) = (seen L p q k || decide (x.1 = p ∧ x.2 = q)) := by
  unfold seen
  rw [List.take_add_one, h]
  obtain ⟨a, b⟩ := x
  by_cases c : a = p ∧ b = q
  · obtain ⟨rfl, rfl⟩ := c
    simp
  · rw [decide_eq_false c]
    simp
    intro e1 e2
    exact absurd ⟨e1.symm, e2.symm⟩ c
set_option maxRecDepth 100000 in
set_option maxHeartbeats 8000000 in
theorem ccl_walk (xa ya za ta x y p q c : Int) (L : List (Int × Int)) (hL : L.length ≤ 4000) (AW : Hid CAwake) (N1 : Hid (KCt xa ya za ta c)) (hc : decide (4000 < c) = false) (A1 : Hid (CeA xa ya za ta L)) (E1 : Hid (CeO x y p q))
    (HD : Hid (∀ tx ty : Int, (tx, ty) ∈ L → ∃ d0 d1 d2 d3, Hid (CeD tx ty d0 d1 d2 d3) ∧ Hid (CxV xa ya za ta d0 d1 d2 d3 true))) (z : Bool) (C1 : Hid (KCo xa ya za ta x y z)) (hz : (L.contains (p, q) || !z) = true) (w : World) (F0 : Fac w) : Calls Tryd.prog 4 #[.agg #[.int .i32 xa, .int .i32 ya, .int .i32 za, .int .i32 ta], .agg #[.int .i32 x, .int .i32 y]] w fun e w' => e = .returned (.bool true) ∧ Kep w.heap.size w w' := by
  go_enter Tryd.func4, Tryd.ntmps4
  go_wp2_with (first
    | ((with_reducible refine (AW.out _ (F0.kep (by (repeat (first | with_reducible assumption | refine kep_more ?_ _ | refine kep_drew ?_ | exact Kep.refl _ _))))).mono ?_); rintro e w1 ⟨rfl, g1⟩
       have i0 := Kep.all g1 (a := ⟨w.heap.size, 0, none⟩) (v := .int .i32 xa) (by (repeat (first | rw [World.cell?_drew] | rw [World.cell?_alloc_past _ _ _ (by first | (simp; done) | (simp; omega))])); rw [World.cell?_alloc_at _ _ _ _ (by simp)]; rfl)
       have i1 := Kep.all g1 (a := ⟨w.heap.size, 1, none⟩) (v := .int .i32 ya) (by (repeat (first | rw [World.cell?_drew] | rw [World.cell?_alloc_past _ _ _ (by first | (simp; done) | (simp; omega))])); rw [World.cell?_alloc_at _ _ _ _ (by simp)]; rfl)
       have i2 := Kep.all g1 (a := ⟨w.heap.size, 2, none⟩) (v := .int .i32 za) (by (repeat (first | rw [World.cell?_drew] | rw [World.cell?_alloc_past _ _ _ (by first | (simp; done) | (simp; omega))])); rw [World.cell?_alloc_at _ _ _ _ (by simp)]; rfl)
       have i3 := Kep.all g1 (a := ⟨w.heap.size, 3, none⟩) (v := .int .i32 ta) (by (repeat (first | rw [World.cell?_drew] | rw [World.cell?_alloc_past _ _ _ (by first | (simp; done) | (simp; omega))])); rw [World.cell?_alloc_at _ _ _ _ (by simp)]; rfl)
       have n0 := Kep.all g1 (a := ⟨w.heap.size + 1, 0, none⟩) (v := .int .i32 x) (by (repeat (first | rw [World.cell?_drew] | rw [World.cell?_alloc_past _ _ _ (by first | (simp; done) | (simp; omega))])); rw [World.cell?_alloc_at _ _ _ _ (by simp)]; rfl)
       have n1 := Kep.all g1 (a := ⟨w.heap.size + 1, 1, none⟩) (v := .int .i32 y) (by (repeat (first | rw [World.cell?_drew] | rw [World.cell?_alloc_past _ _ _ (by first | (simp; done) | (simp; omega))])); rw [World.cell?_alloc_at _ _ _ _ (by simp)]; rfl)
       have gg := kep_next (kep_more (kep_more (Kep.refl _ _) _) _) g1
       have zi_w1 : w.heap.size < w1.heap.size := World.block_lt_of_cell? _ _ i0
       have zn_w1 : w.heap.size + 1 < w1.heap.size := World.block_lt_of_cell? _ _ n0)
    | ((with_reducible refine (N1.out _).mono ?_); rintro e w2 ⟨rfl, g2⟩
       replace i0 := Kep.all g2 (a := ⟨w.heap.size, 0, none⟩) (v := .int .i32 xa) i0
       replace i1 := Kep.all g2 (a := ⟨w.heap.size, 1, none⟩) (v := .int .i32 ya) i1
       replace i2 := Kep.all g2 (a := ⟨w.heap.size, 2, none⟩) (v := .int .i32 za) i2
       replace i3 := Kep.all g2 (a := ⟨w.heap.size, 3, none⟩) (v := .int .i32 ta) i3
       replace n0 := Kep.all g2 (a := ⟨w.heap.size + 1, 0, none⟩) (v := .int .i32 x) n0
       replace n1 := Kep.all g2 (a := ⟨w.heap.size + 1, 1, none⟩) (v := .int .i32 y) n1
       replace gg := kep_next gg g2
       have zi_w2 : w.heap.size < w2.heap.size := World.block_lt_of_cell? _ _ i0
       have zn_w2 : w.heap.size + 1 < w2.heap.size := World.block_lt_of_cell? _ _ n0)
    | ((with_reducible refine (A1.out _).mono ?_); rintro e w3 ⟨l, rfl, ql, g3⟩
       replace i0 := Kep.all g3 (a := ⟨w.heap.size, 0, none⟩) (v := .int .i32 xa) (Kep.all (kep_more (Kep.refl _ _) _) i0)
       replace i1 := Kep.all g3 (a := ⟨w.heap.size, 1, none⟩) (v := .int .i32 ya) (Kep.all (kep_more (Kep.refl _ _) _) i1)
       replace i2 := Kep.all g3 (a := ⟨w.heap.size, 2, none⟩) (v := .int .i32 za) (Kep.all (kep_more (Kep.refl _ _) _) i2)
       replace i3 := Kep.all g3 (a := ⟨w.heap.size, 3, none⟩) (v := .int .i32 ta) (Kep.all (kep_more (Kep.refl _ _) _) i3)
       replace n0 := Kep.all g3 (a := ⟨w.heap.size + 1, 0, none⟩) (v := .int .i32 x) (Kep.all (kep_more (Kep.refl _ _) _) n0)
       replace n1 := Kep.all g3 (a := ⟨w.heap.size + 1, 1, none⟩) (v := .int .i32 y) (Kep.all (kep_more (Kep.refl _ _) _) n1)
       have b0 := Kep.all g3 (a := ⟨w2.heap.size, 0, none⟩) (v := .int .i32 xa) (by (repeat (first | rw [World.cell?_drew] | rw [World.cell?_alloc_past _ _ _ (by first | (simp; done) | (simp; omega))])); rw [World.cell?_alloc_at _ _ _ _ (by simp)]; rfl)
       have b1 := Kep.all g3 (a := ⟨w2.heap.size, 1, none⟩) (v := .int .i32 ya) (by (repeat (first | rw [World.cell?_drew] | rw [World.cell?_alloc_past _ _ _ (by first | (simp; done) | (simp; omega))])); rw [World.cell?_alloc_at _ _ _ _ (by simp)]; rfl)
       have b2 := Kep.all g3 (a := ⟨w2.heap.size, 2, none⟩) (v := .int .i32 za) (by (repeat (first | rw [World.cell?_drew] | rw [World.cell?_alloc_past _ _ _ (by first | (simp; done) | (simp; omega))])); rw [World.cell?_alloc_at _ _ _ _ (by simp)]; rfl)
       have b3 := Kep.all g3 (a := ⟨w2.heap.size, 3, none⟩) (v := .int .i32 ta) (by (repeat (first | rw [World.cell?_drew] | rw [World.cell?_alloc_past _ _ _ (by first | (simp; done) | (simp; omega))])); rw [World.cell?_alloc_at _ _ _ _ (by simp)]; rfl)
       replace gg := kep_next (kep_more gg _) g3
       have zi_w3 : w.heap.size < w3.heap.size := World.block_lt_of_cell? _ _ i0
       have zn_w3 : w.heap.size + 1 < w3.heap.size := World.block_lt_of_cell? _ _ n0
       have zb_w3 : w2.heap.size < w3.heap.size := World.block_lt_of_cell? _ _ b0))
  obtain ⟨base, cap, rfl, hc⟩ := ql
  have HC := Lib.hid hc
  clear hc g1 g2 g3
  have HZ := Lib.hid hz
  clear hz
  have g0 := Lib.hid gg
  clear gg
  generalize hn : L.length = n at *
  have HN := Lib.hid hn
  clear hn
  go_wp2_with fail
  go_loopw [7, 8] (fun f i wr => ∃ (k : Nat) (z : Bool), k ≤ n ∧ i = .int .i64 k ∧ f = .bool z ∧ Hid (seen L p q k = z) ∧ Hid (Kep w3.heap.size w3 wr)) (fun _ i _ => n - (RowKit.intOf i).toNat)
  case atStart => exact ⟨0, false, by omega, rfl, rfl, Lib.hid (by simp [seen]), Lib.hid (Kep.refl _ _)⟩
  case round =>
    obtain ⟨k, z0, hk, rfl, rfl, HS, HK⟩ := hrel
    have gg := HK.out
    clear HK
    have i0 := Kep.all gg i0
    have i1 := Kep.all gg i1
    have i2 := Kep.all gg i2
    have i3 := Kep.all gg i3
    have n0 := Kep.all gg n0
    have n1 := Kep.all gg n1
    have b0 := Kep.all gg b0
    have b1 := Kep.all gg b1
    have b2 := Kep.all gg b2
    have b3 := Kep.all gg b3
    by_cases hlt : k < n
    · have hb : L[k]? = some (L[k]'(by rw [HN.out]; exact hlt)) := List.getElem?_eq_getElem _
      generalize L[k]'(by rw [HN.out]; exact hlt) = x at hb
      obtain ⟨gl, off, rfl, hx⟩ := HC.out k x hb
      obtain ⟨tx, ty⟩ := x
      have t0 : wr.cell? ⟨gl, off + k * 2, none⟩ = some (.int .i32 tx) := gg.all (hx 0 _ rfl)
      have t1 : wr.cell? ⟨gl, off + k * 2 + 1, none⟩ = some (.int .i32 ty) := gg.all (hx 1 _ rfl)
      obtain ⟨d0, d1, d2, d3, D1, V1⟩ := HD.out tx ty (List.mem_of_getElem? hb)
      have HS2 := Lib.hid (seen_succ (p := p) (q := q) hb)
      rw [HS.out] at HS2
      clear hx hb HS
      obtain ⟨z1, hz1⟩ : ∃ z1, decide (tx = p ∧ ty = q) = z1 := ⟨_, rfl⟩
      have vv := fun w => cell_cmp tx ty p q z1 hz1 w
      dsimp only at HS2
      rw [hz1] at HS2
      clear hz1
      cases z0
      · go_wp2_with fail
        refine wp_region_noPanic ?_
        refine wp_region_held_drew (S := (fun w' => w'.cell? ⟨w.heap.size, 0, none⟩ = some (.int .i32 xa) ∧ w'.cell? ⟨w.heap.size, 1, none⟩ = some (.int .i32 ya) ∧ w'.cell? ⟨w.heap.size, 2, none⟩ = some (.int .i32 za) ∧ w'.cell? ⟨w.heap.size, 3, none⟩ = some (.int .i32 ta) ∧ w'.cell? ⟨w.heap.size + 1, 0, none⟩ = some (.int .i32 x) ∧ w'.cell? ⟨w.heap.size + 1, 1, none⟩ = some (.int .i32 y) ∧ w'.cell? ⟨w2.heap.size, 0, none⟩ = some (.int .i32 xa) ∧ w'.cell? ⟨w2.heap.size, 1, none⟩ = some (.int .i32 ya) ∧ w'.cell? ⟨w2.heap.size, 2, none⟩ = some (.int .i32 za) ∧ w'.cell? ⟨w2.heap.size, 3, none⟩ = some (.int .i32 ta) ∧ w'.cell? ⟨gl, off + k * 2, none⟩ = some (.int .i32 tx) ∧ w'.cell? ⟨gl, off + k * 2 + 1, none⟩ = some (.int .i32 ty) ∧ Kep w3.heap.size w3 w')) (by kernel_rfl) (⟨by rw [World.cell?_drew]; exact i0, by rw [World.cell?_drew]; exact i1, by rw [World.cell?_drew]; exact i2, by rw [World.cell?_drew]; exact i3, by rw [World.cell?_drew]; exact n0, by rw [World.cell?_drew]; exact n1, by rw [World.cell?_drew]; exact b0, by rw [World.cell?_drew]; exact b1, by rw [World.cell?_drew]; exact b2, by rw [World.cell?_drew]; exact b3, by rw [World.cell?_drew]; exact t0, by rw [World.cell?_drew]; exact t1, kep_drew gg⟩) (fun hH => ?_)
        refine wpAnyH_take (i := 0) (oi := { dst := some 34, op := Op.move (Operand.tmp 7), type := _, pos := _, after := _, guard := none }) (v := ?_) rfl (by kernel_rfl) (by kernel_rfl) (by kernel_rfl) (fun _ _ _ h => h) (Or.inl ⟨by rfl, ?_⟩) hH ?_
        rotate_left
        · (intro w hSw; (try dsimp only at hSw); go_simp; (try with_reducible rfl))
        try simp only [Act.put, List.setIfInBounds_toArray, List.set_cons_zero, List.set_cons_succ]
        refine wpAnyH_take (i := 1) (oi := { dst := some 35, op := Op.move (Operand.tmp 34), type := _, pos := _, after := _, guard := none }) (v := ?_) rfl (by kernel_rfl) (by kernel_rfl) (by kernel_rfl) (fun _ _ _ h => h) (Or.inl ⟨by rfl, ?_⟩) hH ?_
        rotate_left
        · (intro w hSw; (try dsimp only at hSw); go_simp; (try with_reducible rfl))
        try simp only [Act.put, List.setIfInBounds_toArray, List.set_cons_zero, List.set_cons_succ]
        refine wpAnyH_take (i := 2) (oi := { dst := some 36, op := Op.move (Operand.tmp 6), type := _, pos := _, after := _, guard := some (1, false) }) (v := ?_) rfl (by kernel_rfl) (by kernel_rfl) (by kernel_rfl) (fun _ _ _ h => h) (Or.inl ⟨by rfl, ?_⟩) hH ?_
        rotate_left
        · (intro w hSw; (try dsimp only at hSw); go_simp; (try with_reducible rfl))
        try simp only [Act.put, List.setIfInBounds_toArray, List.set_cons_zero, List.set_cons_succ]
        refine wpAnyH_take (i := 3) (oi := { dst := some 37, op := Op.move (Operand.tmp 8), type := _, pos := _, after := _, guard := some (1, false) }) (v := ?_) rfl (by kernel_rfl) (by kernel_rfl) (by kernel_rfl) (fun _ _ _ h => h) (Or.inl ⟨by rfl, ?_⟩) hH ?_
        rotate_left
        · (intro w hSw; (try dsimp only at hSw); go_simp; (try with_reducible rfl))
        try simp only [Act.put, List.setIfInBounds_toArray, List.set_cons_zero, List.set_cons_succ]
        refine wpAnyH_take (i := 4) (oi := { dst := some 38, op := Op.indexAddr 40 (Operand.tmp 36) (Operand.tmp 37), type := _, pos := _, after := _, guard := some (1, false) }) (v := ?_) rfl (by kernel_rfl) (by kernel_rfl) (by kernel_rfl) (fun _ _ _ h => h) (Or.inl ⟨by rfl, ?_⟩) hH ?_
        rotate_left
        · (intro w hSw; (try dsimp only at hSw); go_simp; (try with_reducible rfl))
        try simp only [Act.put, List.setIfInBounds_toArray, List.set_cons_zero, List.set_cons_succ]
        refine wpAnyH_take (i := 5) (oi := { dst := some 39, op := Op.load 29 (Operand.tmp 38), type := _, pos := _, after := _, guard := some (1, false) }) (v := ?_) rfl (by kernel_rfl) (by kernel_rfl) (by kernel_rfl) (fun _ _ _ h => h) (Or.inl ⟨by rfl, ?_⟩) hH ?_
        rotate_left
        · (intro w hSw; (try dsimp only at hSw); go_simp; (try with_reducible rfl))
        try simp only [Act.put, List.setIfInBounds_toArray, List.set_cons_zero, List.set_cons_succ]
        refine wpAnyH_take (i := 6) (oi := { dst := some 40, op := Op.load 23 (Operand.tmp 3), type := _, pos := _, after := _, guard := some (1, false) }) (v := ?_) rfl (by kernel_rfl) (by kernel_rfl) (by kernel_rfl) (fun _ _ _ h => h) (Or.inl ⟨by rfl, ?_⟩) hH ?_
        rotate_left
        · (intro w hSw; (try dsimp only at hSw); go_simp; (try with_reducible rfl))
        try simp only [Act.put, List.setIfInBounds_toArray, List.set_cons_zero, List.set_cons_succ]
        refine wpAnyH_ready (rs := [7]) (by kernel_rfl) (by simp) ?_
        refine AllReadyH.cons (o := { dst := some 41, op := Op.call { callee := Callee.value (Operand.func 10), args := #[Operand.tmp 40], argTypes := #[23] }, type := _, pos := _, after := _, guard := some (1, false) }) rfl (fun K hK => ?_) AllReadyH.nil
        go_simp
        (with_reducible refine (E1.out _).mono ?_); rintro e v9_7 ⟨rfl, g⟩
        refine hK.out _ _ (by (try dsimp only); (go_split_ands; exact ⟨Kep.all g (by assumption), Kep.all g (by assumption), Kep.all g (by assumption), Kep.all g (by assumption), Kep.all g (by assumption), Kep.all g (by assumption), Kep.all g (by assumption), Kep.all g (by assumption), Kep.all g (by assumption), Kep.all g (by assumption), Kep.all g (by assumption), Kep.all g (by assumption), kep_next (by assumption) g⟩)) (fun hH2 => ?_)
        clear hK K hH; have hH := hH2; clear hH2
        try simp only [Act.put, List.setIfInBounds_toArray, List.set_cons_zero, List.set_cons_succ]
        refine wpAnyH_take (i := 8) (oi := { dst := some 42, op := Op.binOp BinOp.eql 29 (Operand.tmp 39) (Operand.tmp 41) 29, type := _, pos := _, after := _, guard := some (1, false) }) (v := ?_) rfl (by kernel_rfl) (by kernel_rfl) (by kernel_rfl) (fun _ _ _ h => h) (Or.inl ⟨by rfl, ?_⟩) hH ?_
        rotate_left
        · (intro w hSw; (try dsimp only at hSw); go_simp; (try with_reducible rfl))
        try simp only [Act.put, List.setIfInBounds_toArray, List.set_cons_zero, List.set_cons_succ]
        refine wpAnyH_take (i := 9) (oi := { dst := some 43, op := Op.pick (Operand.tmp 35) (Operand.const (Value.bool true)) (Operand.tmp 42), type := _, pos := _, after := _, guard := none }) (v := ?_) rfl (by kernel_rfl) (by kernel_rfl) (by kernel_rfl) (fun _ _ _ h => h) (Or.inl ⟨by rfl, ?_⟩) hH ?_
        rotate_left
        · (intro w hSw; (try dsimp only at hSw); go_simp; (try with_reducible rfl))
        try simp only [Act.put, List.setIfInBounds_toArray, List.set_cons_zero, List.set_cons_succ]
        refine wpAnyH_take (i := 10) (oi := { dst := some 7, op := Op.assign (Operand.tmp 43), type := _, pos := _, after := _, guard := none }) (v := ?_) rfl (by kernel_rfl) (by kernel_rfl) (by kernel_rfl) (fun _ _ _ h => h) (Or.inl ⟨by rfl, ?_⟩) hH ?_
        rotate_left
        · (intro w hSw; (try dsimp only at hSw); go_simp; (try with_reducible rfl))
        try simp only [Act.put, List.setIfInBounds_toArray, List.set_cons_zero, List.set_cons_succ]
        refine wpAnyH_done (by kernel_rfl) ?_ _
        refine NoPanic.normal ?_
        clear i0 i1 i2 i3 n0 n1 b0 b1 b2 b3 t0 t1 gg
        obtain ⟨i0, i1, i2, i3, n0, n1, b0, b1, b2, b3, t0, t1, gg⟩ := hH
        go_wp2_with fail
        refine wp_region_noPanic ?_
        refine wp_region_held_drew (S := (fun w' => w'.cell? ⟨w.heap.size, 0, none⟩ = some (.int .i32 xa) ∧ w'.cell? ⟨w.heap.size, 1, none⟩ = some (.int .i32 ya) ∧ w'.cell? ⟨w.heap.size, 2, none⟩ = some (.int .i32 za) ∧ w'.cell? ⟨w.heap.size, 3, none⟩ = some (.int .i32 ta) ∧ w'.cell? ⟨w.heap.size + 1, 0, none⟩ = some (.int .i32 x) ∧ w'.cell? ⟨w.heap.size + 1, 1, none⟩ = some (.int .i32 y) ∧ w'.cell? ⟨w2.heap.size, 0, none⟩ = some (.int .i32 xa) ∧ w'.cell? ⟨w2.heap.size, 1, none⟩ = some (.int .i32 ya) ∧ w'.cell? ⟨w2.heap.size, 2, none⟩ = some (.int .i32 za) ∧ w'.cell? ⟨w2.heap.size, 3, none⟩ = some (.int .i32 ta) ∧ w'.cell? ⟨gl, off + k * 2, none⟩ = some (.int .i32 tx) ∧ w'.cell? ⟨gl, off + k * 2 + 1, none⟩ = some (.int .i32 ty) ∧ Kep w3.heap.size w3 w')) (by kernel_rfl) (⟨by rw [World.cell?_drew]; exact i0, by rw [World.cell?_drew]; exact i1, by rw [World.cell?_drew]; exact i2, by rw [World.cell?_drew]; exact i3, by rw [World.cell?_drew]; exact n0, by rw [World.cell?_drew]; exact n1, by rw [World.cell?_drew]; exact b0, by rw [World.cell?_drew]; exact b1, by rw [World.cell?_drew]; exact b2, by rw [World.cell?_drew]; exact b3, by rw [World.cell?_drew]; exact t0, by rw [World.cell?_drew]; exact t1, kep_drew gg⟩) (fun hH => ?_)
        refine wpAnyH_take (i := 0) (oi := { dst := some 44, op := Op.load 33 (Operand.tmp 5), type := _, pos := _, after := _, guard := none }) (v := ?_) rfl (by kernel_rfl) (by kernel_rfl) (by kernel_rfl) (fun _ _ _ h => h) (Or.inl ⟨by rfl, ?_⟩) hH ?_
        rotate_left
        · (intro w hSw; (try dsimp only at hSw); go_simp; (try with_reducible rfl))
        try simp only [Act.put, List.setIfInBounds_toArray, List.set_cons_zero, List.set_cons_succ]
        refine wpAnyH_take (i := 1) (oi := { dst := some 45, op := Op.move (Operand.tmp 6), type := _, pos := _, after := _, guard := none }) (v := ?_) rfl (by kernel_rfl) (by kernel_rfl) (by kernel_rfl) (fun _ _ _ h => h) (Or.inl ⟨by rfl, ?_⟩) hH ?_
        rotate_left
        · (intro w hSw; (try dsimp only at hSw); go_simp; (try with_reducible rfl))
        try simp only [Act.put, List.setIfInBounds_toArray, List.set_cons_zero, List.set_cons_succ]
        refine wpAnyH_take (i := 2) (oi := { dst := some 46, op := Op.move (Operand.tmp 8), type := _, pos := _, after := _, guard := none }) (v := ?_) rfl (by kernel_rfl) (by kernel_rfl) (by kernel_rfl) (fun _ _ _ h => h) (Or.inl ⟨by rfl, ?_⟩) hH ?_
        rotate_left
        · (intro w hSw; (try dsimp only at hSw); go_simp; (try with_reducible rfl))
        try simp only [Act.put, List.setIfInBounds_toArray, List.set_cons_zero, List.set_cons_succ]
        refine wpAnyH_take (i := 3) (oi := { dst := some 47, op := Op.indexAddr 40 (Operand.tmp 45) (Operand.tmp 46), type := _, pos := _, after := _, guard := none }) (v := ?_) rfl (by kernel_rfl) (by kernel_rfl) (by kernel_rfl) (fun _ _ _ h => h) (Or.inl ⟨by rfl, ?_⟩) hH ?_
        rotate_left
        · (intro w hSw; (try dsimp only at hSw); go_simp; (try with_reducible rfl))
        try simp only [Act.put, List.setIfInBounds_toArray, List.set_cons_zero, List.set_cons_succ]
        refine wpAnyH_take (i := 4) (oi := { dst := some 48, op := Op.load 29 (Operand.tmp 47), type := _, pos := _, after := _, guard := none }) (v := ?_) rfl (by kernel_rfl) (by kernel_rfl) (by kernel_rfl) (fun _ _ _ h => h) (Or.inl ⟨by rfl, ?_⟩) hH ?_
        rotate_left
        · (intro w hSw; (try dsimp only at hSw); go_simp; (try with_reducible rfl))
        try simp only [Act.put, List.setIfInBounds_toArray, List.set_cons_zero, List.set_cons_succ]
        refine wpAnyH_ready (rs := [5]) (by kernel_rfl) (by simp) ?_
        refine AllReadyH.cons (o := { dst := some 49, op := Op.call { callee := Callee.value (Operand.func 21), args := #[Operand.tmp 48], argTypes := #[29] }, type := _, pos := _, after := _, guard := none }) rfl (fun K hK => ?_) AllReadyH.nil
        go_simp
        (with_reducible refine (D1.out _).mono ?_); rintro e v10_5 ⟨rfl, g⟩
        refine hK.out _ _ (by (try dsimp only); (go_split_ands; exact ⟨Kep.all g (by assumption), Kep.all g (by assumption), Kep.all g (by assumption), Kep.all g (by assumption), Kep.all g (by assumption), Kep.all g (by assumption), Kep.all g (by assumption), Kep.all g (by assumption), Kep.all g (by assumption), Kep.all g (by assumption), Kep.all g (by assumption), Kep.all g (by assumption), kep_next (by assumption) g⟩)) (fun hH2 => ?_)
        clear hK K hH; have hH := hH2; clear hH2
        try simp only [Act.put, List.setIfInBounds_toArray, List.set_cons_zero, List.set_cons_succ]
        refine wpAnyH_ready (rs := [6]) (by kernel_rfl) (by simp) ?_
        refine AllReadyH.cons (o := { dst := some 50, op := Op.call { callee := Callee.value (Operand.func 20), args := #[Operand.tmp 44, Operand.tmp 49], argTypes := #[33, 33] }, type := _, pos := _, after := _, guard := none }) rfl (fun K hK => ?_) AllReadyH.nil
        go_simp
        (with_reducible refine (V1.out _).mono ?_); rintro e v10_6 ⟨rfl, g⟩
        refine hK.out _ _ (by (try dsimp only); (go_split_ands; exact ⟨Kep.all g (by assumption), Kep.all g (by assumption), Kep.all g (by assumption), Kep.all g (by assumption), Kep.all g (by assumption), Kep.all g (by assumption), Kep.all g (by assumption), Kep.all g (by assumption), Kep.all g (by assumption), Kep.all g (by assumption), Kep.all g (by assumption), Kep.all g (by assumption), kep_next (by assumption) g⟩)) (fun hH2 => ?_)
        clear hK K hH; have hH := hH2; clear hH2
        try simp only [Act.put, List.setIfInBounds_toArray, List.set_cons_zero, List.set_cons_succ]
        refine wpAnyH_take (i := 7) (oi := { dst := some 51, op := Op.unOp UnOp.not 4 (Operand.tmp 50), type := _, pos := _, after := _, guard := none }) (v := ?_) rfl (by kernel_rfl) (by kernel_rfl) (by kernel_rfl) (fun _ _ _ h => h) (Or.inl ⟨by rfl, ?_⟩) hH ?_
        rotate_left
        · (intro w hSw; (try dsimp only at hSw); go_simp; (try with_reducible rfl))
        try simp only [Act.put, List.setIfInBounds_toArray, List.set_cons_zero, List.set_cons_succ]
        refine wpAnyH_done (by kernel_rfl) ?_ _
        refine NoPanic.normal ?_
        clear i0 i1 i2 i3 n0 n1 b0 b1 b2 b3 t0 t1 gg
        obtain ⟨i0, i1, i2, i3, n0, n1, b0, b1, b2, b3, t0, t1, gg⟩ := hH
        go_wp2_with fail
        go_roundw
        case rel => exact ⟨k + 1, _, by omega, by go_num, rfl, HS2, Lib.hid gg⟩
        case measure => simp [RowKit.intOf]; omega
      · go_wp2_with fail
        refine wp_region_noPanic ?_
        refine wp_region_held_drew (S := (fun w' => w'.cell? ⟨w.heap.size, 0, none⟩ = some (.int .i32 xa) ∧ w'.cell? ⟨w.heap.size, 1, none⟩ = some (.int .i32 ya) ∧ w'.cell? ⟨w.heap.size, 2, none⟩ = some (.int .i32 za) ∧ w'.cell? ⟨w.heap.size, 3, none⟩ = some (.int .i32 ta) ∧ w'.cell? ⟨w.heap.size + 1, 0, none⟩ = some (.int .i32 x) ∧ w'.cell? ⟨w.heap.size + 1, 1, none⟩ = some (.int .i32 y) ∧ w'.cell? ⟨w2.heap.size, 0, none⟩ = some (.int .i32 xa) ∧ w'.cell? ⟨w2.heap.size, 1, none⟩ = some (.int .i32 ya) ∧ w'.cell? ⟨w2.heap.size, 2, none⟩ = some (.int .i32 za) ∧ w'.cell? ⟨w2.heap.size, 3, none⟩ = some (.int .i32 ta) ∧ w'.cell? ⟨gl, off + k * 2, none⟩ = some (.int .i32 tx) ∧ w'.cell? ⟨gl, off + k * 2 + 1, none⟩ = some (.int .i32 ty) ∧ Kep w3.heap.size w3 w')) (by kernel_rfl) (⟨by rw [World.cell?_drew]; exact i0, by rw [World.cell?_drew]; exact i1, by rw [World.cell?_drew]; exact i2, by rw [World.cell?_drew]; exact i3, by rw [World.cell?_drew]; exact n0, by rw [World.cell?_drew]; exact n1, by rw [World.cell?_drew]; exact b0, by rw [World.cell?_drew]; exact b1, by rw [World.cell?_drew]; exact b2, by rw [World.cell?_drew]; exact b3, by rw [World.cell?_drew]; exact t0, by rw [World.cell?_drew]; exact t1, kep_drew gg⟩) (fun hH => ?_)
        refine wpAnyH_take (i := 0) (oi := { dst := some 34, op := Op.move (Operand.tmp 7), type := _, pos := _, after := _, guard := none }) (v := ?_) rfl (by kernel_rfl) (by kernel_rfl) (by kernel_rfl) (fun _ _ _ h => h) (Or.inl ⟨by rfl, ?_⟩) hH ?_
        rotate_left
        · (intro w hSw; (try dsimp only at hSw); go_simp; (try with_reducible rfl))
        try simp only [Act.put, List.setIfInBounds_toArray, List.set_cons_zero, List.set_cons_succ]
        refine wpAnyH_take (i := 1) (oi := { dst := some 35, op := Op.move (Operand.tmp 34), type := _, pos := _, after := _, guard := none }) (v := ?_) rfl (by kernel_rfl) (by kernel_rfl) (by kernel_rfl) (fun _ _ _ h => h) (Or.inl ⟨by rfl, ?_⟩) hH ?_
        rotate_left
        · (intro w hSw; (try dsimp only at hSw); go_simp; (try with_reducible rfl))
        try simp only [Act.put, List.setIfInBounds_toArray, List.set_cons_zero, List.set_cons_succ]
        refine wpAnyH_take (i := 2) (oi := { dst := some 36, op := Op.move (Operand.tmp 6), type := _, pos := _, after := _, guard := some (1, false) }) (v := undef) rfl (by kernel_rfl) (by kernel_rfl) (by kernel_rfl) (fun _ _ _ h => h) (Or.inr ⟨by rfl, rfl⟩) hH ?_
        try simp only [Act.put, List.setIfInBounds_toArray, List.set_cons_zero, List.set_cons_succ]
        refine wpAnyH_take (i := 3) (oi := { dst := some 37, op := Op.move (Operand.tmp 8), type := _, pos := _, after := _, guard := some (1, false) }) (v := undef) rfl (by kernel_rfl) (by kernel_rfl) (by kernel_rfl) (fun _ _ _ h => h) (Or.inr ⟨by rfl, rfl⟩) hH ?_
        try simp only [Act.put, List.setIfInBounds_toArray, List.set_cons_zero, List.set_cons_succ]
        refine wpAnyH_take (i := 4) (oi := { dst := some 38, op := Op.indexAddr 40 (Operand.tmp 36) (Operand.tmp 37), type := _, pos := _, after := _, guard := some (1, false) }) (v := undef) rfl (by kernel_rfl) (by kernel_rfl) (by kernel_rfl) (fun _ _ _ h => h) (Or.inr ⟨by rfl, rfl⟩) hH ?_
        try simp only [Act.put, List.setIfInBounds_toArray, List.set_cons_zero, List.set_cons_succ]
        refine wpAnyH_take (i := 5) (oi := { dst := some 39, op := Op.load 29 (Operand.tmp 38), type := _, pos := _, after := _, guard := some (1, false) }) (v := undef) rfl (by kernel_rfl) (by kernel_rfl) (by kernel_rfl) (fun _ _ _ h => h) (Or.inr ⟨by rfl, rfl⟩) hH ?_
        try simp only [Act.put, List.setIfInBounds_toArray, List.set_cons_zero, List.set_cons_succ]
        refine wpAnyH_take (i := 6) (oi := { dst := some 40, op := Op.load 23 (Operand.tmp 3), type := _, pos := _, after := _, guard := some (1, false) }) (v := undef) rfl (by kernel_rfl) (by kernel_rfl) (by kernel_rfl) (fun _ _ _ h => h) (Or.inr ⟨by rfl, rfl⟩) hH ?_
        try simp only [Act.put, List.setIfInBounds_toArray, List.set_cons_zero, List.set_cons_succ]
        refine wpAnyH_take (i := 7) (oi := { dst := some 41, op := Op.call { callee := Callee.value (Operand.func 10), args := #[Operand.tmp 40], argTypes := #[23] }, type := _, pos := _, after := _, guard := some (1, false) }) (v := undef) rfl (by kernel_rfl) (by kernel_rfl) (by kernel_rfl) (fun _ _ _ h => h) (Or.inr ⟨by rfl, rfl⟩) hH ?_
        try simp only [Act.put, List.setIfInBounds_toArray, List.set_cons_zero, List.set_cons_succ]
        refine wpAnyH_take (i := 8) (oi := { dst := some 42, op := Op.binOp BinOp.eql 29 (Operand.tmp 39) (Operand.tmp 41) 29, type := _, pos := _, after := _, guard := some (1, false) }) (v := undef) rfl (by kernel_rfl) (by kernel_rfl) (by kernel_rfl) (fun _ _ _ h => h) (Or.inr ⟨by rfl, rfl⟩) hH ?_
        try simp only [Act.put, List.setIfInBounds_toArray, List.set_cons_zero, List.set_cons_succ]
        refine wpAnyH_take (i := 9) (oi := { dst := some 43, op := Op.pick (Operand.tmp 35) (Operand.const (Value.bool true)) (Operand.tmp 42), type := _, pos := _, after := _, guard := none }) (v := ?_) rfl (by kernel_rfl) (by kernel_rfl) (by kernel_rfl) (fun _ _ _ h => h) (Or.inl ⟨by rfl, ?_⟩) hH ?_
        rotate_left
        · (intro w hSw; (try dsimp only at hSw); go_simp; (try with_reducible rfl))
        try simp only [Act.put, List.setIfInBounds_toArray, List.set_cons_zero, List.set_cons_succ]
        refine wpAnyH_take (i := 10) (oi := { dst := some 7, op := Op.assign (Operand.tmp 43), type := _, pos := _, after := _, guard := none }) (v := ?_) rfl (by kernel_rfl) (by kernel_rfl) (by kernel_rfl) (fun _ _ _ h => h) (Or.inl ⟨by rfl, ?_⟩) hH ?_
        rotate_left
        · (intro w hSw; (try dsimp only at hSw); go_simp; (try with_reducible rfl))
        try simp only [Act.put, List.setIfInBounds_toArray, List.set_cons_zero, List.set_cons_succ]
        refine wpAnyH_done (by kernel_rfl) ?_ _
        refine NoPanic.normal ?_
        clear i0 i1 i2 i3 n0 n1 b0 b1 b2 b3 t0 t1 gg
        obtain ⟨i0, i1, i2, i3, n0, n1, b0, b1, b2, b3, t0, t1, gg⟩ := hH
        go_wp2_with fail
        refine wp_region_noPanic ?_
        refine wp_region_held_drew (S := (fun w' => w'.cell? ⟨w.heap.size, 0, none⟩ = some (.int .i32 xa) ∧ w'.cell? ⟨w.heap.size, 1, none⟩ = some (.int .i32 ya) ∧ w'.cell? ⟨w.heap.size, 2, none⟩ = some (.int .i32 za) ∧ w'.cell? ⟨w.heap.size, 3, none⟩ = some (.int .i32 ta) ∧ w'.cell? ⟨w.heap.size + 1, 0, none⟩ = some (.int .i32 x) ∧ w'.cell? ⟨w.heap.size + 1, 1, none⟩ = some (.int .i32 y) ∧ w'.cell? ⟨w2.heap.size, 0, none⟩ = some (.int .i32 xa) ∧ w'.cell? ⟨w2.heap.size, 1, none⟩ = some (.int .i32 ya) ∧ w'.cell? ⟨w2.heap.size, 2, none⟩ = some (.int .i32 za) ∧ w'.cell? ⟨w2.heap.size, 3, none⟩ = some (.int .i32 ta) ∧ w'.cell? ⟨gl, off + k * 2, none⟩ = some (.int .i32 tx) ∧ w'.cell? ⟨gl, off + k * 2 + 1, none⟩ = some (.int .i32 ty) ∧ Kep w3.heap.size w3 w')) (by kernel_rfl) (⟨by rw [World.cell?_drew]; exact i0, by rw [World.cell?_drew]; exact i1, by rw [World.cell?_drew]; exact i2, by rw [World.cell?_drew]; exact i3, by rw [World.cell?_drew]; exact n0, by rw [World.cell?_drew]; exact n1, by rw [World.cell?_drew]; exact b0, by rw [World.cell?_drew]; exact b1, by rw [World.cell?_drew]; exact b2, by rw [World.cell?_drew]; exact b3, by rw [World.cell?_drew]; exact t0, by rw [World.cell?_drew]; exact t1, kep_drew gg⟩) (fun hH => ?_)
        refine wpAnyH_take (i := 0) (oi := { dst := some 44, op := Op.load 33 (Operand.tmp 5), type := _, pos := _, after := _, guard := none }) (v := ?_) rfl (by kernel_rfl) (by kernel_rfl) (by kernel_rfl) (fun _ _ _ h => h) (Or.inl ⟨by rfl, ?_⟩) hH ?_
        rotate_left
        · (intro w hSw; (try dsimp only at hSw); go_simp; (try with_reducible rfl))
        try simp only [Act.put, List.setIfInBounds_toArray, List.set_cons_zero, List.set_cons_succ]
        refine wpAnyH_take (i := 1) (oi := { dst := some 45, op := Op.move (Operand.tmp 6), type := _, pos := _, after := _, guard := none }) (v := ?_) rfl (by kernel_rfl) (by kernel_rfl) (by kernel_rfl) (fun _ _ _ h => h) (Or.inl ⟨by rfl, ?_⟩) hH ?_
        rotate_left
        · (intro w hSw; (try dsimp only at hSw); go_simp; (try with_reducible rfl))
        try simp only [Act.put, List.setIfInBounds_toArray, List.set_cons_zero, List.set_cons_succ]
        refine wpAnyH_take (i := 2) (oi := { dst := some 46, op := Op.move (Operand.tmp 8), type := _, pos := _, after := _, guard := none }) (v := ?_) rfl (by kernel_rfl) (by kernel_rfl) (by kernel_rfl) (fun _ _ _ h => h) (Or.inl ⟨by rfl, ?_⟩) hH ?_
        rotate_left
        · (intro w hSw; (try dsimp only at hSw); go_simp; (try with_reducible rfl))
        try simp only [Act.put, List.setIfInBounds_toArray, List.set_cons_zero, List.set_cons_succ]
        refine wpAnyH_take (i := 3) (oi := { dst := some 47, op := Op.indexAddr 40 (Operand.tmp 45) (Operand.tmp 46), type := _, pos := _, after := _, guard := none }) (v := ?_) rfl (by kernel_rfl) (by kernel_rfl) (by kernel_rfl) (fun _ _ _ h => h) (Or.inl ⟨by rfl, ?_⟩) hH ?_
        rotate_left
        · (intro w hSw; (try dsimp only at hSw); go_simp; (try with_reducible rfl))
        try simp only [Act.put, List.setIfInBounds_toArray, List.set_cons_zero, List.set_cons_succ]
        refine wpAnyH_take (i := 4) (oi := { dst := some 48, op := Op.load 29 (Operand.tmp 47), type := _, pos := _, after := _, guard := none }) (v := ?_) rfl (by kernel_rfl) (by kernel_rfl) (by kernel_rfl) (fun _ _ _ h => h) (Or.inl ⟨by rfl, ?_⟩) hH ?_
        rotate_left
        · (intro w hSw; (try dsimp only at hSw); go_simp; (try with_reducible rfl))
        try simp only [Act.put, List.setIfInBounds_toArray, List.set_cons_zero, List.set_cons_succ]
        refine wpAnyH_ready (rs := [5]) (by kernel_rfl) (by simp) ?_
        refine AllReadyH.cons (o := { dst := some 49, op := Op.call { callee := Callee.value (Operand.func 21), args := #[Operand.tmp 48], argTypes := #[29] }, type := _, pos := _, after := _, guard := none }) rfl (fun K hK => ?_) AllReadyH.nil
        go_simp
        (with_reducible refine (D1.out _).mono ?_); rintro e v10_5 ⟨rfl, g⟩
        refine hK.out _ _ (by (try dsimp only); (go_split_ands; exact ⟨Kep.all g (by assumption), Kep.all g (by assumption), Kep.all g (by assumption), Kep.all g (by assumption), Kep.all g (by assumption), Kep.all g (by assumption), Kep.all g (by assumption), Kep.all g (by assumption), Kep.all g (by assumption), Kep.all g (by assumption), Kep.all g (by assumption), Kep.all g (by assumption), kep_next (by assumption) g⟩)) (fun hH2 => ?_)
        clear hK K hH; have hH := hH2; clear hH2
        try simp only [Act.put, List.setIfInBounds_toArray, List.set_cons_zero, List.set_cons_succ]
        refine wpAnyH_ready (rs := [6]) (by kernel_rfl) (by simp) ?_
        refine AllReadyH.cons (o := { dst := some 50, op := Op.call { callee := Callee.value (Operand.func 20), args := #[Operand.tmp 44, Operand.tmp 49], argTypes := #[33, 33] }, type := _, pos := _, after := _, guard := none }) rfl (fun K hK => ?_) AllReadyH.nil
        go_simp
        (with_reducible refine (V1.out _).mono ?_); rintro e v10_6 ⟨rfl, g⟩
        refine hK.out _ _ (by (try dsimp only); (go_split_ands; exact ⟨Kep.all g (by assumption), Kep.all g (by assumption), Kep.all g (by assumption), Kep.all g (by assumption), Kep.all g (by assumption), Kep.all g (by assumption), Kep.all g (by assumption), Kep.all g (by assumption), Kep.all g (by assumption), Kep.all g (by assumption), Kep.all g (by assumption), Kep.all g (by assumption), kep_next (by assumption) g⟩)) (fun hH2 => ?_)
        clear hK K hH; have hH := hH2; clear hH2
        try simp only [Act.put, List.setIfInBounds_toArray, List.set_cons_zero, List.set_cons_succ]
        refine wpAnyH_take (i := 7) (oi := { dst := some 51, op := Op.unOp UnOp.not 4 (Operand.tmp 50), type := _, pos := _, after := _, guard := none }) (v := ?_) rfl (by kernel_rfl) (by kernel_rfl) (by kernel_rfl) (fun _ _ _ h => h) (Or.inl ⟨by rfl, ?_⟩) hH ?_
        rotate_left
        · (intro w hSw; (try dsimp only at hSw); go_simp; (try with_reducible rfl))
        try simp only [Act.put, List.setIfInBounds_toArray, List.set_cons_zero, List.set_cons_succ]
        refine wpAnyH_done (by kernel_rfl) ?_ _
        refine NoPanic.normal ?_
        clear i0 i1 i2 i3 n0 n1 b0 b1 b2 b3 t0 t1 gg
        obtain ⟨i0, i1, i2, i3, n0, n1, b0, b1, b2, b3, t0, t1, gg⟩ := hH
        go_wp2_with fail
        go_roundw
        case rel => exact ⟨k + 1, _, by omega, by go_num, rfl, HS2, Lib.hid gg⟩
        case measure => simp [RowKit.intOf]; omega
    · obtain rfl : k = n := by omega
      have e : L.contains (p, q) = z0 := by
        have := HS.out
        unfold seen at this
        rwa [List.take_of_length_le (by rw [HN.out]; omega)] at this
      have zz := HZ.out
      rw [e] at zz
      clear e
      cases z0
      · obtain rfl : z = false := by cases z <;> simp_all
        go_wp2_with (first
          | ((with_reducible refine (C1.out _).mono ?_); rintro e w9 ⟨rfl, g9⟩
             replace i0 := Kep.all g9 (a := ⟨w.heap.size, 0, none⟩) (v := .int .i32 xa) i0
             replace i1 := Kep.all g9 (a := ⟨w.heap.size, 1, none⟩) (v := .int .i32 ya) i1
             replace i2 := Kep.all g9 (a := ⟨w.heap.size, 2, none⟩) (v := .int .i32 za) i2
             replace i3 := Kep.all g9 (a := ⟨w.heap.size, 3, none⟩) (v := .int .i32 ta) i3
             replace n0 := Kep.all g9 (a := ⟨w.heap.size + 1, 0, none⟩) (v := .int .i32 x) n0
             replace n1 := Kep.all g9 (a := ⟨w.heap.size + 1, 1, none⟩) (v := .int .i32 y) n1
             replace gg := kep_next gg g9
             have zi_w9 : w.heap.size < w9.heap.size := World.block_lt_of_cell? _ _ i0
             have zn_w9 : w.heap.size + 1 < w9.heap.size := World.block_lt_of_cell? _ _ n0))
        go_ret
        exact ⟨rfl, kep_next g0.out gg⟩
      · go_wp2_with fail
        go_ret
        exact ⟨rfl, kep_next g0.out gg⟩
/-- The law CellCovers. -/
theorem ccl_law (AW : CAwake) (O : COps) (xa ya za ta x y : Int) (hx : In3 x) (hy : In3 y) (hxa : In3 xa) (hya : In3 ya) (hza : In3 za) (hta : In3 ta) (w : World) (F0 : Fac w) : Calls Tryd.prog 4 #[.agg #[.int .i32 xa, .int .i32 ya, .int .i32 za, .int .i32 ta], .agg #[.int .i32 x, .int .i32 y]] w fun e w' => e = .returned (.bool true) ∧ Kep w.heap.size w w' := by
  have E1 := Lib.hid (O.of x y hx hy)
  have C1 : Hid (KCo xa ya za ta x y (conB xa ya za ta x y)) := Lib.hid (fun w => kep_calls (rco xa ya za ta x y _ rfl w))
  by_cases h : za < xa ∨ ta < ya
  · refine ccl_walk xa ya za ta x y _ _ 0 [] (by simp) (Lib.hid AW) (Lib.hid (fun w => kep_calls (rct_no _ _ _ _ h w))) (by decide) (Lib.hid (O.allNo _ _ _ _ (decide_eq_true h))) E1 (Lib.hid (fun tx ty q => by simp at q)) _ C1 ?_ w F0
    rw [show conB xa ya za ta x y = false from decide_eq_false (by omega)]
    rfl
  obtain ⟨n, hn⟩ : ∃ n : Nat, colN za = colN xa + n - 1 := ⟨(colN za - colN xa + 1).toNat, by have := colN_le (show xa ≤ za by omega); omega⟩
  obtain ⟨m, hm⟩ : ∃ m : Nat, colN ta = colN ya + m - 1 := ⟨(colN ta - colN ya + 1).toNat, by have := colN_le (show ya ≤ ta by omega); omega⟩
  have a1 := colN_in hxa
  have a2 := colN_in hya
  have a3 := colN_in hza
  have a4 := colN_in hta
  have ln : n ≤ 1024 := by omega
  have lm : m ≤ 1024 := by omega
  have lnm : n * m ≤ 1024 * 1024 := Nat.mul_le_mul ln lm
  have N1 : Hid (KCt xa ya za ta ((n * m : Nat) : Int)) := Lib.hid (fun w => kep_calls (rct_yes xa ya za ta (colN xa) (colN ya) (colN za) (colN ta) n m _ (Lib.hid (rem _ _ _ _ false (decide_eq_false h))) (Lib.hid (rcl hza)) (Lib.hid (rcl hxa)) (Lib.hid (rcl hta)) (Lib.hid (rcl hya))
    (by rw [IntKind.wrap_i64]; omega) (by rw [IntKind.wrap_i64]; omega) (by rw [IntKind.wrap_i64]; omega) (by rw [IntKind.wrap_i64]; omega) (by rw [← Int.natCast_mul, IntKind.wrap_i64]; omega) (by rw [IntKind.wrap_i64]; omega) (by rw [IntKind.wrap_i64]; omega) (by rw [IntKind.wrap_i64]; omega) (by rw [IntKind.wrap_i64]; omega) w))
  by_cases hc : 4000 < n * m
  · exact ccl_big xa ya za ta x y _ (Lib.hid AW) N1 (decide_eq_true (by omega)) w F0
  · have hmn : m * n ≤ 4000 := by rw [Nat.mul_comm]; omega
    refine ccl_walk xa ya za ta x y _ _ _ (allC (colN xa) (colN ya) n m) (by rw [allC_len]; omega) (Lib.hid AW) N1 (decide_eq_false (by omega)) (Lib.hid (O.all xa ya za ta n m hxa hya hza hta (decide_eq_false h) hn hm hmn)) E1 (Lib.hid (fun tx ty q => ?_)) _ C1 ?_ w F0
    · rw [allC_mem] at q
      have V := O.overlap xa ya za ta (tx * 4194304) (ty * 4194304) (tx * 4194304 + 4194303) (ty * 4194304 + 4194303)
      rw [show ovlB xa ya za ta (tx * 4194304) (ty * 4194304) (tx * 4194304 + 4194303) (ty * 4194304 + 4194303) = true from decide_eq_true (by unfold colN at *; omega)] at V
      exact ⟨_, _, _, _, Lib.hid (O.bounds tx ty ⟨by omega, by omega⟩ ⟨by omega, by omega⟩), Lib.hid V⟩
    · by_cases hi : xa ≤ x ∧ x ≤ za ∧ ya ≤ y ∧ y ≤ ta
      · have : (allC (colN xa) (colN ya) n m).contains (colN x, colN y) = true := by
          rw [List.contains_iff_mem, allC_mem]
          have b1 := colN_le hi.1
          have b2 := colN_le hi.2.1
          have b3 := colN_le hi.2.2.1
          have b4 := colN_le hi.2.2.2
          omega
        rw [this]
        rfl
      · rw [show conB xa ya za ta x y = false from decide_eq_false hi]
        simp
end Go.Proofs.YtnbncdgadahhbaaDoor
