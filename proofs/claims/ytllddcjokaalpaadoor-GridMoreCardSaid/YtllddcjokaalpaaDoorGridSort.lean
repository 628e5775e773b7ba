/-
  Package grid: the library's sort of a slice of pairs.
-/
import Derived.Test.YtllddcjokaalpaaDoorGridSort0
import Derived.Test.YtllddcjokaalpaaDoorGridCon
import Derived.Shelf.Small.Bits
import Derived.Deep.DeepCutAuto
namespace Go.Proofs.YtllddcjokaalpaaDoor
open Go.RowKit Go.Lib Go.Shelf Go.Sort

theorem pcmp_any (x y : Int) (w : World) : Calls Tryd.prog 42 #[.int .u32 x, .int .u32 y] w fun e w' => e = .returned (.int .i64 (Lib.compareInt x y)) ∧ w = w' := by
  unfold Lib.compareInt
  by_cases h1 : x < y
  · rw [if_pos h1]
    go_enter Tryd.func42, Tryd.ntmps42
    go_wp2
    go_ret
    exact ⟨rfl, rfl⟩
  · rw [if_neg h1]
    by_cases h2 : x > y
    · rw [if_pos h2]
      go_enter Tryd.func42, Tryd.ntmps42
      go_wp2
      go_ret
      exact ⟨rfl, rfl⟩
    · rw [if_neg h2]
      go_enter Tryd.func42, Tryd.ntmps42
      go_wp2
      go_ret
      exact ⟨rfl, rfl⟩
def orI (x y : Int) : Int := if x = 0 then y else x
theorem por_any (x y : Int) (b : Nat) (w : World) (h0 : w.cell? ⟨b, 0, none⟩ = some (.int .i64 x)) (h1 : w.cell? ⟨b, 1, none⟩ = some (.int .i64 y)) : Calls Tryd.prog 41 #[.slice (some ⟨b, 0, none⟩) 2 2] w fun e w' => e = .returned (.int .i64 (orI x y)) ∧ w = w' := by
  unfold orI
  by_cases c : x = 0
  · rw [if_pos c]
    subst c
    by_cases d : y = 0
    · subst d
      go_enter Tryd.func41, Tryd.ntmps41
      go_wp2
      refine wp_loop_rounds 3 ?_
      rw [rounds_succ]
      go_wp2
      rw [rounds_succ]
      go_wp2
      rw [rounds_succ]
      go_wp2
      go_ret
      exact ⟨rfl, rfl⟩
    · have e : (y != 0) = true := bne_iff_ne.2 d
      go_enter Tryd.func41, Tryd.ntmps41
      go_wp2
      refine wp_loop_rounds 3 ?_
      rw [rounds_succ]
      go_wp2
      rw [rounds_succ]
      go_wp2
      go_ret
      exact ⟨rfl, rfl⟩
  · rw [if_neg c]
    have e : (x != 0) = true := bne_iff_ne.2 c
    go_enter Tryd.func41, Tryd.ntmps41
    go_wp2
    refine wp_loop_rounds 3 ?_
    rw [rounds_succ]
    go_wp2
    go_ret
    exact ⟨rfl, rfl⟩
def byPair (p q : Int × Int) : Int := orI (Lib.compareInt p.1 q.1) (Lib.compareInt p.2 q.2)
theorem cmp_world (W W2 : World) (o1 o2 o3 : Obj) (h : W2 = grow W #[o1, o2]) : ∃ n os', (W2.alloc o3).drew = grow (W.drewN n) os' := ⟨1, #[o1, o2] ++ #[o3], by subst h; rw [alloc_eq_grow, grow_grow, drew_grow]; rfl⟩
set_option maxRecDepth 100000 in
set_option maxHeartbeats 400000 in
theorem pcompare_any (p q : Int × Int) (W : World) : Calls Tryd.prog 26 #[.agg (pv p).toArray, .agg (pv q).toArray] W fun e w' => e = .returned (.int .i64 (byPair p q)) ∧ ∃ n os', w' = grow (W.drewN n) os' := by
  obtain ⟨p0, p1⟩ := p
  obtain ⟨q0, q1⟩ := q
  have C0 := Lib.hid (fun W' => pcmp_any p0 q0 W')
  have C1 := Lib.hid (fun W' => pcmp_any p1 q1 W')
  have CO := Lib.hid (fun x y b W' h0 h1 => por_any x y b W' h0 h1)
  show Calls Tryd.prog _ #[.agg #[.int .u32 p0, .int .u32 p1], .agg #[.int .u32 q0, .int .u32 q1]] W _
  unfold byPair
  dsimp only
  generalize Lib.compareInt p0 q0 = r0 at *
  generalize Lib.compareInt p1 q1 = r1 at *
  go_enter Tryd.func26, Tryd.ntmps26
  go_wp2_with fail
  obtain ⟨W2, hW2⟩ : ∃ W2, W2 = (W.alloc (.cells #[.int .u32 p0, .int .u32 p1] 44)).alloc (.cells #[.int .u32 q0, .int .u32 q1] 44) := ⟨_, rfl⟩
  rw [← hW2]
  have hs : W2.heap.size = W.heap.size + 2 := by rw [hW2]; simp
  have a0 : W2.cell? ⟨W.heap.size, 0, none⟩ = some (.int .u32 p0) := by rw [hW2, World.cell?_alloc_past _ _ _ (by simp), World.cell?_alloc_at _ _ _ _ rfl]; rfl
  have a1 : W2.cell? ⟨W.heap.size, 1, none⟩ = some (.int .u32 p1) := by rw [hW2, World.cell?_alloc_past _ _ _ (by simp), World.cell?_alloc_at _ _ _ _ rfl]; rfl
  have b0 : W2.cell? ⟨W.heap.size + 1, 0, none⟩ = some (.int .u32 q0) := by rw [hW2, World.cell?_alloc_at _ _ _ _ (by simp)]; rfl
  have b1 : W2.cell? ⟨W.heap.size + 1, 1, none⟩ = some (.int .u32 q1) := by rw [hW2, World.cell?_alloc_at _ _ _ _ (by simp)]; rfl
  have gk : Hid (Kep W.heap.size W W2) := Lib.hid (by rw [hW2]; exact kep_more (kep_more (Kep.refl _ _) _) _)
  have HW2 : Hid (W2 = grow W #[.cells #[.int .u32 p0, .int .u32 p1] 44, .cells #[.int .u32 q0, .int .u32 q1] 44]) := Lib.hid (by rw [hW2, alloc_eq_grow, alloc_eq_grow, grow_grow]; rfl)
  clear hW2 hs
  have gg := gk.out
  refine wp_region_noPanic ?_
  refine wp_region_held_drew (S := (fun w' => w'.cell? ⟨W.heap.size, 0, none⟩ = some (.int .u32 p0) ∧ w'.cell? ⟨W.heap.size, 1, none⟩ = some (.int .u32 p1) ∧ w'.cell? ⟨W.heap.size + 1, 0, none⟩ = some (.int .u32 q0) ∧ w'.cell? ⟨W.heap.size + 1, 1, none⟩ = some (.int .u32 q1) ∧ Kep W.heap.size W w')) (by kernel_rfl) (⟨by rw [World.cell?_drew]; exact a0, by rw [World.cell?_drew]; exact a1, by rw [World.cell?_drew]; exact b0, by rw [World.cell?_drew]; exact b1, kep_drew gg⟩) (fun hH => ?_)
  refine wpAnyH_take (i := 0) (oi := { dst := some 5, op := Op.fieldAddr 44 (Operand.tmp 2) 0, type := _, pos := _, after := _, guard := none }) (v := ?_) rfl (by kernel_rfl) (by kernel_rfl) (by kernel_rfl) (fun _ _ _ h => h) (Or.inl ⟨by rfl, ?_⟩) hH ?_
  rotate_left
  · (intro w hSw; (try dsimp only at hSw); go_simp; (try with_reducible rfl))
  try simp only [Act.put, List.setIfInBounds_toArray, List.set_cons_zero, List.set_cons_succ]
  refine wpAnyH_take (i := 1) (oi := { dst := some 6, op := Op.load 42 (Operand.tmp 5), type := _, pos := _, after := _, guard := none }) (v := ?_) rfl (by kernel_rfl) (by kernel_rfl) (by kernel_rfl) (fun _ _ _ h => h) (Or.inl ⟨by rfl, ?_⟩) hH ?_
  rotate_left
  · (intro w hSw; (try dsimp only at hSw); go_simp; (try with_reducible rfl))
  try simp only [Act.put, List.setIfInBounds_toArray, List.set_cons_zero, List.set_cons_succ]
  refine wpAnyH_take (i := 2) (oi := { dst := some 7, op := Op.fieldAddr 44 (Operand.tmp 3) 0, type := _, pos := _, after := _, guard := none }) (v := ?_) rfl (by kernel_rfl) (by kernel_rfl) (by kernel_rfl) (fun _ _ _ h => h) (Or.inl ⟨by rfl, ?_⟩) hH ?_
  rotate_left
  · (intro w hSw; (try dsimp only at hSw); go_simp; (try with_reducible rfl))
  try simp only [Act.put, List.setIfInBounds_toArray, List.set_cons_zero, List.set_cons_succ]
  refine wpAnyH_take (i := 3) (oi := { dst := some 8, op := Op.load 42 (Operand.tmp 7), type := _, pos := _, after := _, guard := none }) (v := ?_) rfl (by kernel_rfl) (by kernel_rfl) (by kernel_rfl) (fun _ _ _ h => h) (Or.inl ⟨by rfl, ?_⟩) hH ?_
  rotate_left
  · (intro w hSw; (try dsimp only at hSw); go_simp; (try with_reducible rfl))
  try simp only [Act.put, List.setIfInBounds_toArray, List.set_cons_zero, List.set_cons_succ]
  refine wpAnyH_take (i := 5) (oi := { dst := some 10, op := Op.fieldAddr 44 (Operand.tmp 2) 1, type := _, pos := _, after := _, guard := none }) (v := ?_) rfl (by kernel_rfl) (by kernel_rfl) (by kernel_rfl) (fun _ _ _ h => h) (Or.inl ⟨by rfl, ?_⟩) hH ?_
  rotate_left
  · (intro w hSw; (try dsimp only at hSw); go_simp; (try with_reducible rfl))
  try simp only [Act.put, List.setIfInBounds_toArray, List.set_cons_zero, List.set_cons_succ]
  refine wpAnyH_take (i := 6) (oi := { dst := some 11, op := Op.load 42 (Operand.tmp 10), type := _, pos := _, after := _, guard := none }) (v := ?_) rfl (by kernel_rfl) (by kernel_rfl) (by kernel_rfl) (fun _ _ _ h => h) (Or.inl ⟨by rfl, ?_⟩) hH ?_
  rotate_left
  · (intro w hSw; (try dsimp only at hSw); go_simp; (try with_reducible rfl))
  try simp only [Act.put, List.setIfInBounds_toArray, List.set_cons_zero, List.set_cons_succ]
  refine wpAnyH_take (i := 7) (oi := { dst := some 12, op := Op.fieldAddr 44 (Operand.tmp 3) 1, type := _, pos := _, after := _, guard := none }) (v := ?_) rfl (by kernel_rfl) (by kernel_rfl) (by kernel_rfl) (fun _ _ _ h => h) (Or.inl ⟨by rfl, ?_⟩) hH ?_
  rotate_left
  · (intro w hSw; (try dsimp only at hSw); go_simp; (try with_reducible rfl))
  try simp only [Act.put, List.setIfInBounds_toArray, List.set_cons_zero, List.set_cons_succ]
  refine wpAnyH_take (i := 8) (oi := { dst := some 13, op := Op.load 42 (Operand.tmp 12), type := _, pos := _, after := _, guard := none }) (v := ?_) rfl (by kernel_rfl) (by kernel_rfl) (by kernel_rfl) (fun _ _ _ h => h) (Or.inl ⟨by rfl, ?_⟩) hH ?_
  rotate_left
  · (intro w hSw; (try dsimp only at hSw); go_simp; (try with_reducible rfl))
  try simp only [Act.put, List.setIfInBounds_toArray, List.set_cons_zero, List.set_cons_succ]
  refine wpAnyH_ready (rs := [4]) (by kernel_rfl) (by simp) ?_
  refine AllReadyH.cons (o := { dst := some 9, op := Op.call { callee := Callee.value (Operand.func 42), args := #[Operand.tmp 6, Operand.tmp 8], argTypes := #[42, 42] }, type := _, pos := _, after := _, guard := none }) rfl (fun K hK => ?_) AllReadyH.nil
  go_simp
  (with_reducible refine (C0.out _).mono ?_); rintro e v1_4 ⟨rfl, rfl⟩
  refine hK.out _ _ hH (fun hH2 => ?_)
  clear hK K hH; have hH := hH2; clear hH2
  try simp only [Act.put, List.setIfInBounds_toArray, List.set_cons_zero, List.set_cons_succ]
  refine wpAnyH_ready (rs := [9]) (by kernel_rfl) (by simp) ?_
  refine AllReadyH.cons (o := { dst := some 14, op := Op.call { callee := Callee.value (Operand.func 42), args := #[Operand.tmp 11, Operand.tmp 13], argTypes := #[42, 42] }, type := _, pos := _, after := _, guard := none }) rfl (fun K hK => ?_) AllReadyH.nil
  go_simp
  (with_reducible refine (C1.out _).mono ?_); rintro e v1_9 ⟨rfl, rfl⟩
  refine hK.out _ _ hH (fun hH2 => ?_)
  clear hK K hH; have hH := hH2; clear hH2
  try simp only [Act.put, List.setIfInBounds_toArray, List.set_cons_zero, List.set_cons_succ]
  refine wpAnyH_ready (rs := [10]) (by kernel_rfl) (by simp) ?_
  refine AllReadyH.cons (o := { dst := some 15, op := Op.buildSlice 64 2 #[(0, Operand.tmp 9), (1, Operand.tmp 14)], type := _, pos := _, after := _, guard := none }) rfl (fun K hK => ?_) AllReadyH.nil
  go_simp
  refine hK.out _ _ (by (try dsimp only); (go_split_ands; exact ⟨Kep.all (kep_more (Kep.refl _ _) _) (by assumption), Kep.all (kep_more (Kep.refl _ _) _) (by assumption), Kep.all (kep_more (Kep.refl _ _) _) (by assumption), Kep.all (kep_more (Kep.refl _ _) _) (by assumption), kep_more (by assumption) _⟩)) (fun hH2 => ?_)
  clear hK K hH; have hH := hH2; clear hH2
  try simp only [Act.put, List.setIfInBounds_toArray, List.set_cons_zero, List.set_cons_succ]
  refine wpAnyH_ready (rs := [11]) (by kernel_rfl) (by simp) ?_
  refine AllReadyH.cons (o := { dst := some 16, op := Op.call { callee := Callee.value (Operand.func 41), args := #[Operand.tmp 15], argTypes := #[64] }, type := _, pos := _, after := _, guard := none }) rfl (fun K hK => ?_) AllReadyH.nil
  go_simp
  (with_reducible refine (CO.out r0 r1 W2.heap.size ((W2.alloc (.cells #[.int .i64 r0, .int .i64 r1] 3)).drew) (by rw [World.cell?_drew]; exact (World.cell?_alloc_at (w := W2) _ _ W2.heap.size _ rfl).trans rfl) (by rw [World.cell?_drew]; exact (World.cell?_alloc_at (w := W2) _ _ W2.heap.size _ rfl).trans rfl)).mono ?_); rintro e v1_11 ⟨rfl, rfl⟩
  refine hK.out _ _ (by (try dsimp only); exact hH) (fun hH2 => ?_)
  clear hK K hH; have hH := hH2; clear hH2
  try simp only [Act.put, List.setIfInBounds_toArray, List.set_cons_zero, List.set_cons_succ]
  refine wpAnyH_take (i := 12) (oi := { dst := some 4, op := Op.assign (Operand.tmp 16), type := _, pos := _, after := _, guard := none }) (v := ?_) rfl (by kernel_rfl) (by kernel_rfl) (by kernel_rfl) (fun _ _ _ h => h) (Or.inl ⟨by rfl, ?_⟩) hH ?_
  rotate_left
  · (intro w hSw; (try dsimp only at hSw); go_simp; (try with_reducible rfl))
  try simp only [Act.put, List.setIfInBounds_toArray, List.set_cons_zero, List.set_cons_succ]
  refine wpAnyH_done (by kernel_rfl) ?_ _
  refine NoPanic.normal ?_
  clear a0 a1 b0 b1 gg
  obtain ⟨a0, a1, b0, b1, gg⟩ := hH
  go_wp2
  go_ret
  exact ⟨rfl, cmp_world _ _ _ _ _ HW2.out⟩
-- END compare
theorem compareI (x y : Int) : Lib.compareInt x y < 0 ↔ x < y := by
  unfold Lib.compareInt
  by_cases h1 : x < y
  · simp [h1]
  · by_cases h2 : y < x <;> simp [h1, h2]
theorem compareZ (x y : Int) : Lib.compareInt x y = 0 ↔ x = y := by
  unfold Lib.compareInt
  by_cases h1 : x < y
  · simp [h1]; omega
  · by_cases h2 : y < x
    · simp [h1, h2]; omega
    · simp [h1, h2]; omega
theorem ltPair (x y : Int × Int) : ltOf byPair x y = pless x y := by
  unfold ltOf byPair pless orI
  by_cases c : Lib.compareInt x.1 y.1 = 0
  · rw [if_pos c]
    have e := (compareZ _ _).1 c
    rw [decide_eq_decide, compareI]
    omega
  · rw [if_neg c]
    have e : x.1 ≠ y.1 := fun e => c ((compareZ _ _).2 e)
    rw [decide_eq_decide, compareI]
    omega
theorem swoPair : SWO (ltOf byPair) where
  irrefl x := by rw [ltPair]; unfold pless; simp
  trans x y z h1 h2 := by rw [ltPair] at *; unfold pless at *; simp at *; omega
  ntrans x y z h1 h2 := by rw [ltPair] at *; unfold pless at *; simp at *; omega
theorem pinsert_none (p : Option Addr) (cap : Nat) (fv : Value) (w : World) : Calls Tryd.prog 49 #[.slice p 0 cap, .int .i64 0, .int .i64 0, fv] w fun e w' => e = .returned (.tuple #[]) ∧ w = w' := by
  go_enter Tryd.func49, Tryd.ntmps49
  go_wp2
  refine wp_loop_rounds 1 ?_
  rw [rounds_succ]
  go_wp2
  go_end0
  exact ⟨rfl, rfl⟩
theorem ppdq_none (p : Option Addr) (cap : Nat) (lim : Int) (fv : Value) (w : World) : Calls Tryd.prog 39 #[.slice p 0 cap, .int .i64 0, .int .i64 0, .int .i64 lim, fv] w fun e w' => e = .returned (.tuple #[]) ∧ w = w' := by
  have hi := Lib.hid (fun W => pinsert_none p cap fv W)
  go_enter Tryd.func39, Tryd.ntmps39
  go_wp2
  refine wp_loop_rounds 1 ?_
  rw [rounds_succ]
  go_wp2_with ((with_reducible refine (hi.out _).mono ?_); rintro e w' ⟨rfl, rfl⟩)
  (try simp only [Exit.inBlock, Exit.then]); refine bodyPost_ret (results_none rfl _ _ _) rfl ?_
  exact ⟨rfl, rfl⟩
theorem psort_none (p : Option Addr) (cap : Nat) (fv : Value) (w : World) : Calls Tryd.prog 25 #[.slice p 0 cap, fv] w fun e w' => e = .returned (.tuple #[]) ∧ w = w' := by
  have hp := Lib.hid (fun lim W => ppdq_none p cap lim fv W)
  have hl : Hid (∀ W, Calls Tryd.prog 40 #[.int .u64 0] W fun e w' => e = .returned (.int .i64 (Lib.bitLen 0 : Nat)) ∧ w' = W) := Lib.hid fun W => by
    have h := Any.bits_Len (SlLaysF0.n15.bits (P := Tryd.prog) (ρ := sortP_ren) { sortP with }) 0 W (by omega) (by omega)
    exact h
  go_enter Tryd.func25, Tryd.ntmps25
  go_wp2_with (first | ((with_reducible refine (hl.out _).mono ?_); rintro e w' ⟨rfl, rfl⟩) | ((with_reducible refine (hp.out _ _).mono ?_); rintro e w' ⟨rfl, rfl⟩))
  go_end0
  exact ⟨rfl, rfl⟩
abbrev flatP (D : List (Int × Int)) : List Value := D.flatMap pv
theorem flatP_get (D : List (Int × Int)) (k : Nat) (b : Int × Int) (h : D[k]? = some b) (i : Nat) (hi : i < 2) : (flatP D)[k * 2 + i]? = (pv b)[i]? := cat_get pv_len D k b h i hi
theorem flatKP_get (D : List (Int × Int)) (t : Nat) (h : t < D.length * 2) : (flatK pv 2 D.toArray)[t]! = ((flatP D)[t]?).getD default := by
  rw [get_flatK _ _ _ t (by simpa using h)]
  have hk : t / 2 < D.length := by omega
  have e := flatP_get D (t / 2) _ (List.getElem?_eq_getElem hk) (t % 2) (by omega)
  rw [show t / 2 * 2 + t % 2 = t by omega] at e
  rw [e]
  have a : D.toArray[t / 2]! = D[t / 2] := by rw [getElem!_pos D.toArray (t / 2) (by simpa using hk)]; simp
  rw [a]
  have l : t % 2 < (pv D[t / 2]).length := by show t % 2 < 2; omega
  rw [List.getElem?_eq_getElem l, getElem!_pos (pv D[t / 2]) (t % 2) l]
  rfl
theorem holdsP {w : World} {g cap : Nat} {D : List (Int × Int)} (h : w.ownsRow 0 44 2 (.slice (some ⟨g, 0, none⟩) D.length cap) D.length (flatP D)) : HoldsK pv 2 w g 0 D.toArray := by
  intro j hj
  have hj' : j < D.length * 2 := by simpa using hj
  rw [Nat.zero_add]
  refine ⟨?_, h.frozenAt j⟩
  rw [h.cellAt j hj', flatKP_get D j hj']
  have l : j < (flatP D).length := by rw [h.1]; exact hj'
  rw [List.getElem?_eq_getElem l]
  rfl
theorem size_sortP {w : World} {blk n : Nat} {d : Array (Int × Int)} {os : Array Obj} : w.heap.size ≤ (sortWorldK pv 2 w blk 0 n d os).heap.size := by
  unfold sortWorldK putRowK
  rw [size_grow, size_putRow]
  simp
theorem kep_sortP {w : World} {blk n : Nat} {d : Array (Int × Int)} {os : Array Obj} (hb : blk < w.heap.size) : Kep blk w (sortWorldK pv 2 w blk 0 n d os) := by
  refine ⟨rfl, rfl, size_sortP, fun k hk => ?_⟩
  unfold sortWorldK putRowK putRow
  rw [heap_grow_old _ _ (by simp [mapBlock]; omega)]
  simp only [mapBlock, heap_ahead]
  rw [Array.getElem?_modify, if_neg (by omega)]
theorem cell_sortP {w : World} {blk n : Nat} {d d0 : Array (Int × Int)} {os : Array Obj} (hb : blk < w.heap.size) (h0 : HoldsK pv 2 w blk 0 d0) (hs : d.size = d0.size) {j : Nat} (hj : j < d.size * 2) :
    (sortWorldK pv 2 w blk 0 n d os).cell? ⟨blk, j, none⟩ = some (flatK pv 2 d)[j]! := by
  unfold sortWorldK
  rw [cell?_grow _ _ _ (by unfold putRowK; rw [size_putRow]; simpa using hb)]
  have e := cell?_putRow id (Go.Sort.ahead w n) blk 0 (flatK pv 2 d0) (flatK pv 2 d) (Go.Sort.holds_ahead id w n blk 0 _ h0) (by simp [hs]) j (by simpa using hj)
  rw [Nat.zero_add] at e
  exact e
theorem le_of_sortP {d' : Array (Int × Int)} {n : Nat} (hn : d'.size = n) (h2 : SortedIn (ltOf byPair) 0 n d') : d'.toList.Pairwise fun x y => pless y x = false := by
  refine List.pairwise_iff_getElem.2 fun i j hi hj hij => ?_
  have hj' : j < d'.size := by simpa using hj
  have q := h2 i j (Nat.zero_le _) hij (by omega)
  have gi : d'[i]! = d'.toList[i] := by rw [getElem!_pos d' i (by simpa using hi)]; simp
  have gj : d'[j]! = d'.toList[j] := by rw [getElem!_pos d' j (by simpa using hj)]; simp
  rw [ltPair, gi, gj] at q
  exact q
theorem perm_ofP {D : List (Int × Int)} {d' : Array (Int × Int)} (h1 : PermIn 0 D.toArray.size D.toArray d') : D.Perm d'.toList := by
  obtain ⟨hs, _, hpe⟩ := h1
  rw [Array.extract_eq_self_of_le (Nat.le_of_eq hs), Array.extract_eq_self_of_le (Nat.le_refl _)] at hpe
  simpa using hpe.symm
theorem psortp {w : World} {B : Nat} {v : Value} {D : List (Int × Int)} (h : w.ownsRow B 44 2 v D.length (flatP D)) (hn : D.length ≤ 1000000000) :
    Calls Tryd.prog 25 #[v, .func (.func 26) #[] #[]] w fun e w' => e = .returned (.tuple #[]) ∧ (∃ m, D.Perm m ∧ (m.Pairwise fun x y => pless y x = false) ∧ Sq pv 2 w' v m) ∧ Kep B w w' := by
  rcases h.2 with ⟨rfl, h0⟩ | ⟨g, cap, cur, rfl, hB, hg, hc, _⟩
  · obtain rfl := List.length_eq_zero_iff.1 h0
    exact (psort_none none 0 _ w).mono fun e w' ⟨h1, h2⟩ => ⟨h1, ⟨[], List.Perm.refl _, List.Pairwise.nil, Sq.nil⟩, h2 ▸ Kep.refl _ _⟩
  · have hlt : g < w.heap.size := (Array.getElem?_eq_some_iff.1 hg).1
    have h' : w.ownsRow 0 44 2 (.slice (some ⟨g, 0, none⟩) D.length cap) D.length (flatP D) := ⟨h.1, .inr ⟨g, cap, cur, rfl, Nat.zero_le _, hg, hc, by assumption⟩⟩
    have eg : ∀ args w, (callFunc 26 args).run Tryd.prog w = .ok (.enter 26 args) w := enters_of Tryd.func26 (by kernel_rfl) rfl
    have hcon := AnyQ.slices_SortFunc sortP 2 Tryd.isAgg44 Tryd.sizeOf44 pv (fun _ => rfl) (fun x u hu => pv_one x u hu) byPair swoPair 26 #[] g 0 cap D.toArray w eg (fun _ _ _ _ x y => pcompare_any x y _) (holdsP h') hlt (by simp; omega)
    change Calls Tryd.prog 25 _ _ _ at hcon
    rw [show D.toArray.size = D.length by simp] at hcon
    refine hcon.mono fun e w' ⟨h1, d', n, os, hpe, hso, hw⟩ => ⟨h1, ?_, ?_⟩
    · have hs : d'.size = D.toArray.size := by simpa using hpe.1
      have hp : D.Perm d'.toList := perm_ofP (by simpa using hpe)
      refine ⟨d'.toList, hp, le_of_sortP (by simpa using hs) hso, ?_⟩
      obtain ⟨m, hm⟩ : ∃ m, m = d'.toList := ⟨_, rfl⟩
      rw [← hm] at hp ⊢
      have hlen : m.length = D.length := hp.length_eq.symm
      subst hw
      refine ⟨_, cap, by rw [hlen], fun k b hb => ⟨g, 0, rfl, fun i u hu => ?_⟩⟩
      have hi : i < 2 := by have := (List.getElem?_eq_some_iff.1 hu).1; rwa [pv_len] at this
      have hk : k < m.length := (List.getElem?_eq_some_iff.1 hb).1
      have hsz : d'.size = m.length := by rw [hm]; simp
      have e := cell_sortP (n := n) (os := os) hlt (holdsP h') hs (j := 0 + k * 2 + i) (by omega)
      rw [e]
      have hda : d' = m.toArray := by rw [hm]
      rw [hda, flatKP_get m _ (by omega), show 0 + k * 2 + i = k * 2 + i by omega, flatP_get m k b hb i hi, hu]
      rfl
    · subst hw
      exact (kep_sortP hlt).mono hB
end Go.Proofs.YtllddcjokaalpaaDoor
