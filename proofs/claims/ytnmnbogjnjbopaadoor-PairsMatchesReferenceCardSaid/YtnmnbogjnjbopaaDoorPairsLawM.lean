/-
  Package pairs: the law PairsMatchesReference.
-/
import Derived.Test.YtnmnbogjnjbopaaDoorPairsLow
import Derived.Deep.DeepCutAuto
import Derived.Deep.QuietTactic
import Derived.BigQuiet
namespace Go.Proofs.YtnmnbogjnjbopaaDoor
open Go.RowKit Go.Lib

set_option maxRecDepth 100000 in
set_option maxHeartbeats 2000000 in
theorem pml_bad (AW : Hid PAwake) (aa ab ac ad key : Int) (L : List Bd) (v : Value) (w : World) (F0 : Fac w) (hq : Lst w v L) (hvw : viwB L = false) : Calls Tryd.prog 8 #[v, .agg #[.int .i32 aa, .int .i32 ab, .int .i32 ac, .int .i32 ad], .int .u32 key] w fun e w' => e = .returned (.bool true) ∧ Kep w.heap.size w w' := by
  obtain ⟨base, cap, rfl⟩ := hq.shape
  have HQ := Lib.hid hq
  clear hq
  have VW : Hid (∀ v w, Lst w v L → Calls Tryd.prog 27 #[v] w fun e w' => ∃ v', e = .returned (.tuple #[v', .bool false]) ∧ Lst w' v' (if L.length ≤ 40 then sortL L else []) ∧ Kep w.heap.size w w') := Lib.hid (fun v w h => (rvw L v w h).mono fun e w' ⟨v', h1, h2, h3⟩ => ⟨v', by rw [h1]; rw [hvw], h2.1, h3⟩)
  go_enter Tryd.func8, Tryd.ntmps8
  go_wp2_with (first
    | ((with_reducible refine (VW.out _ _ (HQ.out.kep (kep_more (Kep.refl _ _) _))).mono ?_); rintro e w1 ⟨v1, rfl, l1, g1⟩
       have a0 := Kep.all g1 (a := ⟨w.heap.size, 0, none⟩) (v := .int .i32 aa) (by (repeat (first | rw [World.cell?_drew] | rw [World.cell?_alloc_past _ _ _ (by first | (simp; done) | (simp; omega))])); rw [World.cell?_alloc_at _ _ _ _ (by simp)]; rfl)
       have a1 := Kep.all g1 (a := ⟨w.heap.size, 1, none⟩) (v := .int .i32 ab) (by (repeat (first | rw [World.cell?_drew] | rw [World.cell?_alloc_past _ _ _ (by first | (simp; done) | (simp; omega))])); rw [World.cell?_alloc_at _ _ _ _ (by simp)]; rfl)
       have a2 := Kep.all g1 (a := ⟨w.heap.size, 2, none⟩) (v := .int .i32 ac) (by (repeat (first | rw [World.cell?_drew] | rw [World.cell?_alloc_past _ _ _ (by first | (simp; done) | (simp; omega))])); rw [World.cell?_alloc_at _ _ _ _ (by simp)]; rfl)
       have a3 := Kep.all g1 (a := ⟨w.heap.size, 3, none⟩) (v := .int .i32 ad) (by (repeat (first | rw [World.cell?_drew] | rw [World.cell?_alloc_past _ _ _ (by first | (simp; done) | (simp; omega))])); rw [World.cell?_alloc_at _ _ _ _ (by simp)]; rfl)
       have gg := kep_next (kep_more (Kep.refl _ _) _) g1
       have za_w1 : w.heap.size < w1.heap.size := World.block_lt_of_cell? _ _ a0)
    | ((with_reducible refine (AW.out _ (F0.kep (by (repeat (first | with_reducible assumption | refine kep_more ?_ _ | refine kep_drew ?_ | exact Kep.refl _ _))))).mono ?_); rintro e w2 ⟨rfl, g2⟩
       replace a0 := Kep.all g2 (a := ⟨w.heap.size, 0, none⟩) (v := .int .i32 aa) a0
       replace a1 := Kep.all g2 (a := ⟨w.heap.size, 1, none⟩) (v := .int .i32 ab) a1
       replace a2 := Kep.all g2 (a := ⟨w.heap.size, 2, none⟩) (v := .int .i32 ac) a2
       replace a3 := Kep.all g2 (a := ⟨w.heap.size, 3, none⟩) (v := .int .i32 ad) a3
       replace gg := kep_next gg g2
       replace l1 := l1.kep g2
       have za_w2 : w.heap.size < w2.heap.size := World.block_lt_of_cell? _ _ a0))
  go_ret
  exact ⟨rfl, gg⟩
set_option maxRecDepth 100000 in
set_option maxHeartbeats 8000000 in
theorem pml_ok (O : POps) (AW : Hid PAwake) (aa ab ac ad key : Int) (ha : InI aa) (hb : InI ab) (hc : InI ac) (hd : InI ad) (hkey : (Lit.int .u32 key).wf = true) (L : List Bd) (v : Value) (w : World) (F0 : Fac w) (hq : Lst w v L) (HF : Hid (∀ x ∈ L, Fits x)) (hvw : viwB L = true) : Calls Tryd.prog 8 #[v, .agg #[.int .i32 aa, .int .i32 ab, .int .i32 ac, .int .i32 ad], .int .u32 key] w fun e w' => e = .returned (.bool true) ∧ Kep w.heap.size w w' := by
  obtain ⟨base, cap, rfl⟩ := hq.shape
  have HQ := Lib.hid hq
  clear hq
  have VW : Hid (∀ v w, Lst w v L → Calls Tryd.prog 27 #[v] w fun e w' => ∃ v', e = .returned (.tuple #[v', .bool true]) ∧ Lst w' v' (sortL L) ∧ Kep w.heap.size w w') := Lib.hid (fun v w h => (rvw L v w h).mono fun e w' ⟨v', h1, h2, h3⟩ => ⟨v', by rw [h1]; rw [hvw], by have := h2.1; rw [if_pos (vw_of hvw HF.out).1] at this; exact this, h3⟩)
  have HVW := Lib.hid (vw_of hvw HF.out).2.2
  obtain ⟨A, hA⟩ : ∃ A, A = sortL L := ⟨_, rfl⟩
  rw [← hA] at VW HVW
  go_enter Tryd.func8, Tryd.ntmps8
  go_wp2_with (first
    | ((with_reducible refine (VW.out _ _ (HQ.out.kep (kep_more (Kep.refl _ _) _))).mono ?_); rintro e w1 ⟨v1, rfl, l1, g1⟩
       have a0 := Kep.all g1 (a := ⟨w.heap.size, 0, none⟩) (v := .int .i32 aa) (by (repeat (first | rw [World.cell?_drew] | rw [World.cell?_alloc_past _ _ _ (by first | (simp; done) | (simp; omega))])); rw [World.cell?_alloc_at _ _ _ _ (by simp)]; rfl)
       have a1 := Kep.all g1 (a := ⟨w.heap.size, 1, none⟩) (v := .int .i32 ab) (by (repeat (first | rw [World.cell?_drew] | rw [World.cell?_alloc_past _ _ _ (by first | (simp; done) | (simp; omega))])); rw [World.cell?_alloc_at _ _ _ _ (by simp)]; rfl)
       have a2 := Kep.all g1 (a := ⟨w.heap.size, 2, none⟩) (v := .int .i32 ac) (by (repeat (first | rw [World.cell?_drew] | rw [World.cell?_alloc_past _ _ _ (by first | (simp; done) | (simp; omega))])); rw [World.cell?_alloc_at _ _ _ _ (by simp)]; rfl)
       have a3 := Kep.all g1 (a := ⟨w.heap.size, 3, none⟩) (v := .int .i32 ad) (by (repeat (first | rw [World.cell?_drew] | rw [World.cell?_alloc_past _ _ _ (by first | (simp; done) | (simp; omega))])); rw [World.cell?_alloc_at _ _ _ _ (by simp)]; rfl)
       have gg := kep_next (kep_more (Kep.refl _ _) _) g1
       have za_w1 : w.heap.size < w1.heap.size := World.block_lt_of_cell? _ _ a0)
    | ((with_reducible refine (AW.out _ (F0.kep (by (repeat (first | with_reducible assumption | refine kep_more ?_ _ | refine kep_drew ?_ | exact Kep.refl _ _))))).mono ?_); rintro e w2 ⟨rfl, g2⟩
       replace a0 := Kep.all g2 (a := ⟨w.heap.size, 0, none⟩) (v := .int .i32 aa) a0
       replace a1 := Kep.all g2 (a := ⟨w.heap.size, 1, none⟩) (v := .int .i32 ab) a1
       replace a2 := Kep.all g2 (a := ⟨w.heap.size, 2, none⟩) (v := .int .i32 ac) a2
       replace a3 := Kep.all g2 (a := ⟨w.heap.size, 3, none⟩) (v := .int .i32 ad) a3
       replace gg := kep_next gg g2
       replace l1 := l1.kep g2
       have za_w2 : w.heap.size < w2.heap.size := World.block_lt_of_cell? _ _ a0)
    | ((with_reducible refine (O.find _ A _ (F0.kep gg) l1 HVW.out).mono ?_); rintro e w3 ⟨v3, n3, rfl, ⟨q3, _⟩, g3⟩
       replace a0 := Kep.all g3 (a := ⟨w.heap.size, 0, none⟩) (v := .int .i32 aa) a0
       replace a1 := Kep.all g3 (a := ⟨w.heap.size, 1, none⟩) (v := .int .i32 ab) a1
       replace a2 := Kep.all g3 (a := ⟨w.heap.size, 2, none⟩) (v := .int .i32 ac) a2
       replace a3 := Kep.all g3 (a := ⟨w.heap.size, 3, none⟩) (v := .int .i32 ad) a3
       replace gg := kep_next gg g3
       replace l1 := l1.kep g3
       have za_w3 : w.heap.size < w3.heap.size := World.block_lt_of_cell? _ _ a0))
  obtain ⟨W4, hW4⟩ : ∃ x, x = w3.alloc (.cells #[.int .i32 aa, .int .i32 ab, .int .i32 ac, .int .i32 ad] 60) := ⟨_, rfl⟩
  rw [← hW4]
  have kW4 : Kep w3.heap.size w3 W4 := by rw [hW4]; exact kep_more (Kep.refl _ _) _
  replace a0 := kW4.all a0
  replace a1 := kW4.all a1
  replace a2 := kW4.all a2
  replace a3 := kW4.all a3
  have b0 : W4.cell? ⟨w3.heap.size, 0, none⟩ = some (.int .i32 aa) := by rw [hW4, World.cell?_alloc_at _ _ _ _ (by simp)]; rfl
  have b1 : W4.cell? ⟨w3.heap.size, 1, none⟩ = some (.int .i32 ab) := by rw [hW4, World.cell?_alloc_at _ _ _ _ (by simp)]; rfl
  have b2 : W4.cell? ⟨w3.heap.size, 2, none⟩ = some (.int .i32 ac) := by rw [hW4, World.cell?_alloc_at _ _ _ _ (by simp)]; rfl
  have b3 : W4.cell? ⟨w3.heap.size, 3, none⟩ = some (.int .i32 ad) := by rw [hW4, World.cell?_alloc_at _ _ _ _ (by simp)]; rfl
  replace gg := kep_next gg kW4
  have ld := (l1.kep kW4).kep (kep_drew (Kep.refl _ _))
  have qd := (q3.kep kW4).kep (kep_drew (Kep.refl _ _))
  have HPF := Lib.hid (rpf A HVW.out.len (Lib.hid HVW.out.ok))
  have HPW := Lib.hid (rpw A (by have := HVW.out.len; omega) (Lib.hid HVW.out.ok) aa ab ac ad)
  obtain ⟨z, hz⟩ : ∃ z, lonB A key = z := ⟨_, rfl⟩
  have HPL := Lib.hid (fun v w h => (show Calls Tryd.prog 34 #[v, .int .u32 key] w fun e w' => e = .returned (.bool z) ∧ Kep w.heap.size w w' by rw [← hz]; exact rpl A key (by have := HVW.out.len; omega) (Lib.hid HVW.out.ok) HVW.out.asc v w h))
  have HPL2 := Lib.hid (fun v w f h => (show Calls Tryd.prog 33 #[v, .int .u32 key] w fun e w' => e = .returned (.bool z) ∧ Kep w.heap.size w w' by rw [← hz]; exact O.lonely v A key w f h HVW.out hkey))
  have ez : (z == z) = true := by simp
  have hpm := pairs_max HVW.out.len
  have hwm := with_len A aa ab ac ad
  have hlm := HVW.out.len
  clear l1 q3 hW4 kW4 hz
  refine wp_region_noPanic ?_
  refine wp_region_held_drew (S := (fun w' => w'.cell? ⟨w.heap.size, 0, none⟩ = some (.int .i32 aa) ∧ w'.cell? ⟨w.heap.size, 1, none⟩ = some (.int .i32 ab) ∧ w'.cell? ⟨w.heap.size, 2, none⟩ = some (.int .i32 ac) ∧ w'.cell? ⟨w.heap.size, 3, none⟩ = some (.int .i32 ad) ∧ w'.cell? ⟨w3.heap.size, 0, none⟩ = some (.int .i32 aa) ∧ w'.cell? ⟨w3.heap.size, 1, none⟩ = some (.int .i32 ab) ∧ w'.cell? ⟨w3.heap.size, 2, none⟩ = some (.int .i32 ac) ∧ w'.cell? ⟨w3.heap.size, 3, none⟩ = some (.int .i32 ad) ∧ Kep w.heap.size w w')) (by kernel_rfl) (⟨by rw [World.cell?_drew]; exact a0, by rw [World.cell?_drew]; exact a1, by rw [World.cell?_drew]; exact a2, by rw [World.cell?_drew]; exact a3, by rw [World.cell?_drew]; exact b0, by rw [World.cell?_drew]; exact b1, by rw [World.cell?_drew]; exact b2, by rw [World.cell?_drew]; exact b3, kep_drew gg⟩) (fun hH => ?_)
  refine wpAnyH_take (i := 0) (oi := { dst := some 38, op := Op.move (Operand.tmp 9), type := _, pos := _, after := _, guard := none }) (v := ?_) rfl (by kernel_rfl) (by kernel_rfl) (by kernel_rfl) (fun _ _ _ h => h) (Or.inl ⟨by rfl, ?_⟩) hH ?_
  rotate_left
  · (intro w hSw; (try dsimp only at hSw); go_simp; (try with_reducible rfl))
  try simp only [Act.put, List.setIfInBounds_toArray, List.set_cons_zero, List.set_cons_succ]
  refine wpAnyH_take (i := 1) (oi := { dst := some 39, op := Op.move (Operand.tmp 7), type := _, pos := _, after := _, guard := none }) (v := ?_) rfl (by kernel_rfl) (by kernel_rfl) (by kernel_rfl) (fun _ _ _ h => h) (Or.inl ⟨by rfl, ?_⟩) hH ?_
  rotate_left
  · (intro w hSw; (try dsimp only at hSw); go_simp; (try with_reducible rfl))
  try simp only [Act.put, List.setIfInBounds_toArray, List.set_cons_zero, List.set_cons_succ]
  refine wpAnyH_ready (rs := [2]) (by kernel_rfl) (by simp) ?_
  refine AllReadyH.cons (o := { dst := some 40, op := Op.call { callee := Callee.value (Operand.func 30), args := #[Operand.tmp 39], argTypes := #[55] }, type := _, pos := _, after := _, guard := none }) rfl (fun K hK => ?_) AllReadyH.nil
  go_simp
  refine (HPF.out _ _ ld).mono ?_; rintro e v6_2 ⟨c2, rfl, ⟨q4, _⟩, g⟩
  replace ld := ld.kep g
  replace qd := qd.kep g
  refine hK.out _ _ (by (try dsimp only); (go_split_ands; exact ⟨Kep.all g (by assumption), Kep.all g (by assumption), Kep.all g (by assumption), Kep.all g (by assumption), Kep.all g (by assumption), Kep.all g (by assumption), Kep.all g (by assumption), Kep.all g (by assumption), kep_next (by assumption) g⟩)) (fun hH2 => ?_)
  clear hK K hH; have hH := hH2; clear hH2
  try simp only [Act.put, List.setIfInBounds_toArray, List.set_cons_zero, List.set_cons_succ]
  refine wpAnyH_ready (rs := [3]) (by kernel_rfl) (by simp) ?_
  refine AllReadyH.cons (o := { dst := some 41, op := Op.call { callee := Callee.value (Operand.func 17), args := #[Operand.tmp 38, Operand.tmp 40], argTypes := #[35, 35] }, type := _, pos := _, after := _, guard := none }) rfl (fun K hK => ?_) AllReadyH.nil
  go_simp
  refine (spm (pairsL A) (by omega) _ _ _ qd q4).mono ?_; rintro e v6_3 ⟨rfl, g⟩
  replace ld := ld.kep g
  refine hK.out _ _ (by (try dsimp only); (go_split_ands; exact ⟨Kep.all g (by assumption), Kep.all g (by assumption), Kep.all g (by assumption), Kep.all g (by assumption), Kep.all g (by assumption), Kep.all g (by assumption), Kep.all g (by assumption), Kep.all g (by assumption), kep_next (by assumption) g⟩)) (fun hH2 => ?_)
  clear hK K hH; have hH := hH2; clear hH2
  try simp only [Act.put, List.setIfInBounds_toArray, List.set_cons_zero, List.set_cons_succ]
  refine wpAnyH_take (i := 4) (oi := { dst := some 42, op := Op.move (Operand.tmp 41), type := _, pos := _, after := _, guard := none }) (v := ?_) rfl (by kernel_rfl) (by kernel_rfl) (by kernel_rfl) (fun _ _ _ h => h) (Or.inl ⟨by rfl, ?_⟩) hH ?_
  rotate_left
  · (intro w hSw; (try dsimp only at hSw); go_simp; (try with_reducible rfl))
  try simp only [Act.put, List.setIfInBounds_toArray, List.set_cons_zero, List.set_cons_succ]
  refine wpAnyH_take (i := 5) (oi := { dst := some 43, op := Op.move (Operand.tmp 7), type := _, pos := _, after := _, guard := some (4, true) }) (v := ?_) rfl (by kernel_rfl) (by kernel_rfl) (by kernel_rfl) (fun _ _ _ h => h) (Or.inl ⟨by rfl, ?_⟩) hH ?_
  rotate_left
  · (intro w hSw; (try dsimp only at hSw); go_simp; (try with_reducible rfl))
  try simp only [Act.put, List.setIfInBounds_toArray, List.set_cons_zero, List.set_cons_succ]
  refine wpAnyH_take (i := 6) (oi := { dst := some 44, op := Op.load 60 (Operand.tmp 11), type := _, pos := _, after := _, guard := some (4, true) }) (v := ?_) rfl (by kernel_rfl) (by kernel_rfl) (by kernel_rfl) (fun _ _ _ h => h) (Or.inl ⟨by rfl, ?_⟩) hH ?_
  rotate_left
  · (intro w hSw; (try dsimp only at hSw); go_simp; (try with_reducible rfl))
  try simp only [Act.put, List.setIfInBounds_toArray, List.set_cons_zero, List.set_cons_succ]
  refine wpAnyH_take (i := 8) (oi := { dst := some 46, op := Op.move (Operand.tmp 7), type := _, pos := _, after := _, guard := some (4, true) }) (v := ?_) rfl (by kernel_rfl) (by kernel_rfl) (by kernel_rfl) (fun _ _ _ h => h) (Or.inl ⟨by rfl, ?_⟩) hH ?_
  rotate_left
  · (intro w hSw; (try dsimp only at hSw); go_simp; (try with_reducible rfl))
  try simp only [Act.put, List.setIfInBounds_toArray, List.set_cons_zero, List.set_cons_succ]
  refine wpAnyH_take (i := 9) (oi := { dst := some 47, op := Op.load 47 (Operand.tmp 4), type := _, pos := _, after := _, guard := some (4, true) }) (v := ?_) rfl (by kernel_rfl) (by kernel_rfl) (by kernel_rfl) (fun _ _ _ h => h) (Or.inl ⟨by rfl, ?_⟩) hH ?_
  rotate_left
  · (intro w hSw; (try dsimp only at hSw); go_simp; (try with_reducible rfl))
  try simp only [Act.put, List.setIfInBounds_toArray, List.set_cons_zero, List.set_cons_succ]
  refine wpAnyH_ready (rs := [7]) (by kernel_rfl) (by simp) ?_
  refine AllReadyH.cons (o := { dst := some 45, op := Op.call { callee := Callee.value (Operand.func 31), args := #[Operand.tmp 43, Operand.tmp 44], argTypes := #[55, 60] }, type := _, pos := _, after := _, guard := some (4, true) }) rfl (fun K hK => ?_) AllReadyH.nil
  go_simp
  refine (O.within _ A aa ab ac ad _ (F0.kep hH.2.2.2.2.2.2.2.2) ld HVW.out ha hb hc hd).mono ?_; rintro e v6_7 ⟨k1, rfl, qk, g⟩
  replace ld := ld.kep g
  refine hK.out _ _ (by (try dsimp only); (go_split_ands; exact ⟨Kep.all g (by assumption), Kep.all g (by assumption), Kep.all g (by assumption), Kep.all g (by assumption), Kep.all g (by assumption), Kep.all g (by assumption), Kep.all g (by assumption), Kep.all g (by assumption), kep_next (by assumption) g⟩)) (fun hH2 => ?_)
  clear hK K hH; have hH := hH2; clear hH2
  try simp only [Act.put, List.setIfInBounds_toArray, List.set_cons_zero, List.set_cons_succ]
  refine wpAnyH_ready (rs := [10]) (by kernel_rfl) (by simp) ?_
  refine AllReadyH.cons (o := { dst := some 48, op := Op.call { callee := Callee.value (Operand.func 32), args := #[Operand.tmp 46, Operand.tmp 47], argTypes := #[55, 47] }, type := _, pos := _, after := _, guard := some (4, true) }) rfl (fun K hK => ?_) AllReadyH.nil
  go_simp
  refine (HPW.out _ _ ld).mono ?_; rintro e v6_10 ⟨k2, rfl, qm, g⟩
  replace ld := ld.kep g
  replace qk := qk.kep g
  refine hK.out _ _ (by (try dsimp only); (go_split_ands; exact ⟨Kep.all g (by assumption), Kep.all g (by assumption), Kep.all g (by assumption), Kep.all g (by assumption), Kep.all g (by assumption), Kep.all g (by assumption), Kep.all g (by assumption), Kep.all g (by assumption), kep_next (by assumption) g⟩)) (fun hH2 => ?_)
  clear hK K hH; have hH := hH2; clear hH2
  try simp only [Act.put, List.setIfInBounds_toArray, List.set_cons_zero, List.set_cons_succ]
  refine wpAnyH_ready (rs := [11]) (by kernel_rfl) (by simp) ?_
  refine AllReadyH.cons (o := { dst := some 49, op := Op.call { callee := Callee.value (Operand.func 20), args := #[Operand.tmp 45, Operand.tmp 48], argTypes := #[27, 27] }, type := _, pos := _, after := _, guard := some (4, true) }) rfl (fun K hK => ?_) AllReadyH.nil
  go_simp
  refine (keys_any _ _ _ _ _ (kv_klst qk) (kv_klst qm) (by omega) true (by simp)).mono ?_; rintro e v6_11 ⟨rfl, g⟩
  replace ld := ld.kep g
  refine hK.out _ _ (by (try dsimp only); (go_split_ands; exact ⟨Kep.all g (by assumption), Kep.all g (by assumption), Kep.all g (by assumption), Kep.all g (by assumption), Kep.all g (by assumption), Kep.all g (by assumption), Kep.all g (by assumption), Kep.all g (by assumption), kep_next (by assumption) g⟩)) (fun hH2 => ?_)
  clear hK K hH; have hH := hH2; clear hH2
  try simp only [Act.put, List.setIfInBounds_toArray, List.set_cons_zero, List.set_cons_succ]
  refine wpAnyH_take (i := 12) (oi := { dst := some 50, op := Op.pick (Operand.tmp 42) (Operand.tmp 49) (Operand.const (Value.bool false)), type := _, pos := _, after := _, guard := none }) (v := ?_) rfl (by kernel_rfl) (by kernel_rfl) (by kernel_rfl) (fun _ _ _ h => h) (Or.inl ⟨by rfl, ?_⟩) hH ?_
  rotate_left
  · (intro w hSw; (try dsimp only at hSw); go_simp; (try with_reducible rfl))
  try simp only [Act.put, List.setIfInBounds_toArray, List.set_cons_zero, List.set_cons_succ]
  refine wpAnyH_take (i := 13) (oi := { dst := some 51, op := Op.move (Operand.tmp 50), type := _, pos := _, after := _, guard := none }) (v := ?_) rfl (by kernel_rfl) (by kernel_rfl) (by kernel_rfl) (fun _ _ _ h => h) (Or.inl ⟨by rfl, ?_⟩) hH ?_
  rotate_left
  · (intro w hSw; (try dsimp only at hSw); go_simp; (try with_reducible rfl))
  try simp only [Act.put, List.setIfInBounds_toArray, List.set_cons_zero, List.set_cons_succ]
  refine wpAnyH_take (i := 14) (oi := { dst := some 52, op := Op.move (Operand.tmp 7), type := _, pos := _, after := _, guard := some (13, true) }) (v := ?_) rfl (by kernel_rfl) (by kernel_rfl) (by kernel_rfl) (fun _ _ _ h => h) (Or.inl ⟨by rfl, ?_⟩) hH ?_
  rotate_left
  · (intro w hSw; (try dsimp only at hSw); go_simp; (try with_reducible rfl))
  try simp only [Act.put, List.setIfInBounds_toArray, List.set_cons_zero, List.set_cons_succ]
  refine wpAnyH_take (i := 15) (oi := { dst := some 53, op := Op.move (Operand.tmp 2), type := _, pos := _, after := _, guard := some (13, true) }) (v := ?_) rfl (by kernel_rfl) (by kernel_rfl) (by kernel_rfl) (fun _ _ _ h => h) (Or.inl ⟨by rfl, ?_⟩) hH ?_
  rotate_left
  · (intro w hSw; (try dsimp only at hSw); go_simp; (try with_reducible rfl))
  try simp only [Act.put, List.setIfInBounds_toArray, List.set_cons_zero, List.set_cons_succ]
  refine wpAnyH_take (i := 17) (oi := { dst := some 55, op := Op.move (Operand.tmp 7), type := _, pos := _, after := _, guard := some (13, true) }) (v := ?_) rfl (by kernel_rfl) (by kernel_rfl) (by kernel_rfl) (fun _ _ _ h => h) (Or.inl ⟨by rfl, ?_⟩) hH ?_
  rotate_left
  · (intro w hSw; (try dsimp only at hSw); go_simp; (try with_reducible rfl))
  try simp only [Act.put, List.setIfInBounds_toArray, List.set_cons_zero, List.set_cons_succ]
  refine wpAnyH_take (i := 18) (oi := { dst := some 56, op := Op.move (Operand.tmp 2), type := _, pos := _, after := _, guard := some (13, true) }) (v := ?_) rfl (by kernel_rfl) (by kernel_rfl) (by kernel_rfl) (fun _ _ _ h => h) (Or.inl ⟨by rfl, ?_⟩) hH ?_
  rotate_left
  · (intro w hSw; (try dsimp only at hSw); go_simp; (try with_reducible rfl))
  try simp only [Act.put, List.setIfInBounds_toArray, List.set_cons_zero, List.set_cons_succ]
  refine wpAnyH_ready (rs := [16]) (by kernel_rfl) (by simp) ?_
  refine AllReadyH.cons (o := { dst := some 54, op := Op.call { callee := Callee.value (Operand.func 33), args := #[Operand.tmp 52, Operand.tmp 53], argTypes := #[55, 42] }, type := _, pos := _, after := _, guard := some (13, true) }) rfl (fun K hK => ?_) AllReadyH.nil
  go_simp
  refine (HPL2.out _ _ (F0.kep hH.2.2.2.2.2.2.2.2) ld).mono ?_; rintro e v6_16 ⟨rfl, g⟩
  replace ld := ld.kep g
  refine hK.out _ _ (by (try dsimp only); (go_split_ands; exact ⟨Kep.all g (by assumption), Kep.all g (by assumption), Kep.all g (by assumption), Kep.all g (by assumption), Kep.all g (by assumption), Kep.all g (by assumption), Kep.all g (by assumption), Kep.all g (by assumption), kep_next (by assumption) g⟩)) (fun hH2 => ?_)
  clear hK K hH; have hH := hH2; clear hH2
  try simp only [Act.put, List.setIfInBounds_toArray, List.set_cons_zero, List.set_cons_succ]
  refine wpAnyH_ready (rs := [19]) (by kernel_rfl) (by simp) ?_
  refine AllReadyH.cons (o := { dst := some 57, op := Op.call { callee := Callee.value (Operand.func 34), args := #[Operand.tmp 55, Operand.tmp 56], argTypes := #[55, 42] }, type := _, pos := _, after := _, guard := some (13, true) }) rfl (fun K hK => ?_) AllReadyH.nil
  go_simp
  refine (HPL.out _ _ ld).mono ?_; rintro e v6_19 ⟨rfl, g⟩
  refine hK.out _ _ (by (try dsimp only); (go_split_ands; exact ⟨Kep.all g (by assumption), Kep.all g (by assumption), Kep.all g (by assumption), Kep.all g (by assumption), Kep.all g (by assumption), Kep.all g (by assumption), Kep.all g (by assumption), Kep.all g (by assumption), kep_next (by assumption) g⟩)) (fun hH2 => ?_)
  clear hK K hH; have hH := hH2; clear hH2
  try simp only [Act.put, List.setIfInBounds_toArray, List.set_cons_zero, List.set_cons_succ]
  refine wpAnyH_take (i := 20) (oi := { dst := some 58, op := Op.binOp BinOp.eql 4 (Operand.tmp 54) (Operand.tmp 57) 4, type := _, pos := _, after := _, guard := some (13, true) }) (v := ?_) rfl (by kernel_rfl) (by kernel_rfl) (by kernel_rfl) (fun _ _ _ h => h) (Or.inl ⟨by rfl, ?_⟩) hH ?_
  rotate_left
  · (intro w hSw; (try dsimp only at hSw); go_simp; (try with_reducible rfl))
  try simp only [Act.put, List.setIfInBounds_toArray, List.set_cons_zero, List.set_cons_succ]
  refine wpAnyH_take (i := 21) (oi := { dst := some 59, op := Op.pick (Operand.tmp 51) (Operand.tmp 58) (Operand.const (Value.bool false)), type := _, pos := _, after := _, guard := none }) (v := ?_) rfl (by kernel_rfl) (by kernel_rfl) (by kernel_rfl) (fun _ _ _ h => h) (Or.inl ⟨by rfl, ?_⟩) hH ?_
  rotate_left
  · (intro w hSw; (try dsimp only at hSw); go_simp; (try with_reducible rfl))
  try simp only [Act.put, List.setIfInBounds_toArray, List.set_cons_zero, List.set_cons_succ]
  refine wpAnyH_take (i := 22) (oi := { dst := some 6, op := Op.assign (Operand.tmp 59), type := _, pos := _, after := _, guard := none }) (v := ?_) rfl (by kernel_rfl) (by kernel_rfl) (by kernel_rfl) (fun _ _ _ h => h) (Or.inl ⟨by rfl, ?_⟩) hH ?_
  rotate_left
  · (intro w hSw; (try dsimp only at hSw); go_simp; (try with_reducible rfl))
  try simp only [Act.put, List.setIfInBounds_toArray, List.set_cons_zero, List.set_cons_succ]
  refine wpAnyH_done (by kernel_rfl) ?_ _
  refine NoPanic.normal ?_
  clear a0 a1 a2 a3 b0 b1 b2 b3 gg
  obtain ⟨a0, a1, a2, a3, b0, b1, b2, b3, gg⟩ := hH
  go_wp2_with fail
  go_ret
  exact ⟨rfl, gg⟩
/-- The law PairsMatchesReference. -/
theorem pml_law (O : POps) (AW : PAwake) (aa ab ac ad key : Int) (ha : InI aa) (hb : InI ab) (hc : InI ac) (hd : InI ad) (hkey : (Lit.int .u32 key).wf = true) (L : List Bd) (v : Value) (w : World) (F0 : Fac w) (hq : Lst w v L) (HF : ∀ x ∈ L, Fits x) : Calls Tryd.prog 8 #[v, .agg #[.int .i32 aa, .int .i32 ab, .int .i32 ac, .int .i32 ad], .int .u32 key] w fun e w' => e = .returned (.bool true) ∧ Kep w.heap.size w w' := by
  cases hvw : viwB L
  · exact pml_bad (Lib.hid AW) aa ab ac ad key L v w F0 hq hvw
  · exact pml_ok O (Lib.hid AW) aa ab ac ad key ha hb hc hd hkey L v w F0 hq (Lib.hid HF) hvw
end Go.Proofs.YtnmnbogjnjbopaaDoor
