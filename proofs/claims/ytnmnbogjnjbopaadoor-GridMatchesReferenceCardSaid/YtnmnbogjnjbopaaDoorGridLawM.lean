/-
  Package grid: the law GridMatchesReference.
-/
import Derived.Test.YtnmnbogjnjbopaaDoorGridFill
import Derived.Deep.DeepCutAuto
namespace Go.Proofs.YtnmnbogjnjbopaaDoor
open Go.RowKit Go.Lib

set_option maxRecDepth 100000 in
set_option maxHeartbeats 2000000 in
theorem gml_bad (AW : Hid GAwake) (px py : Int) (L : List Ent) (hl9 : L.length ≤ 9223372036854775807) (HF : Hid (∀ x ∈ L, FitE x)) (v : Value) (w : World) (F0 : Fac w) (hq : Sq ev 5 w v L) (hfew : fewB L = false) : Calls Tryd.prog 3 #[v, .agg #[.int .i32 px, .int .i32 py]] w fun e w' => e = .returned (.bool true) ∧ Kep w.heap.size w w' := by
  obtain ⟨base, cap, rfl⟩ := hq.shape
  have HQ := Lib.hid hq
  clear hq
  have FW : Hid (∀ v w, Sq ev 5 w v L → Calls Tryd.prog 14 #[v] w fun e w' => e = .returned (.bool false) ∧ Kep w.heap.size w w') := Lib.hid (fun v w h => by have := rfw L hl9 HF v w h; rw [hfew] at this; exact this)
  go_enter Tryd.func3, Tryd.ntmps3
  go_wp2_with (first
    | ((with_reducible refine (AW.out _ (F0.kep (by (repeat (first | with_reducible assumption | refine kep_more ?_ _ | refine kep_drew ?_ | exact Kep.refl _ _))))).mono ?_); rintro e w1 ⟨rfl, g1⟩
       first
         | (replace gg := kep_next gg g1)
         | (have n0 := Kep.all g1 (a := ⟨w.heap.size, 0, none⟩) (v := .int .i32 px) (by (repeat (first | rw [World.cell?_drew] | rw [World.cell?_alloc_past _ _ _ (by first | (simp; done) | (simp; omega))])); rw [World.cell?_alloc_at _ _ _ _ (by simp)]; rfl)
            have n1 := Kep.all g1 (a := ⟨w.heap.size, 1, none⟩) (v := .int .i32 py) (by (repeat (first | rw [World.cell?_drew] | rw [World.cell?_alloc_past _ _ _ (by first | (simp; done) | (simp; omega))])); rw [World.cell?_alloc_at _ _ _ _ (by simp)]; rfl)
            have gg := kep_next (kep_more (Kep.refl _ _) _) g1
            have ql := HQ.out.kep (kep_next (kep_more (Kep.refl _ _) _) g1)))
    | ((with_reducible refine (FW.out _ _ ql).mono ?_); rintro e w2 ⟨rfl, g2⟩
       replace ql := ql.kep g2
       replace n0 := Kep.all g2 (a := ⟨w.heap.size, 0, none⟩) (v := .int .i32 px) n0
       replace n1 := Kep.all g2 (a := ⟨w.heap.size, 1, none⟩) (v := .int .i32 py) n1
       replace gg := kep_next gg g2
       have zn_w2 : w.heap.size < w2.heap.size := World.block_lt_of_cell? _ _ n0))
  go_ret
  exact ⟨rfl, gg⟩
set_option maxRecDepth 100000 in
set_option maxHeartbeats 8000000 in
theorem gml_ok {GI : World → Nat → (Nat → Prop) → List Ent → Prop} (O : GOps GI) (AW : Hid GAwake) (px py : Int) (hx : In3 px) (hy : In3 py) (L : List Ent) (hl9 : L.length ≤ 9223372036854775807) (HF : Hid (∀ x ∈ L, FitE x)) (v : Value) (w : World) (F0 : Fac w) (hq : Sq ev 5 w v L) (HU : Hid (∀ x ∈ L, (Lit.int .u32 x.k).wf = true)) (hfew : fewB L = true) : Calls Tryd.prog 3 #[v, .agg #[.int .i32 px, .int .i32 py]] w fun e w' => e = .returned (.bool true) ∧ Kep w.heap.size w w' := by
  obtain ⟨base, cap, rfl⟩ := hq.shape
  have HQ := Lib.hid hq
  clear hq
  have FW : Hid (∀ v w, Sq ev 5 w v L → Calls Tryd.prog 14 #[v] w fun e w' => e = .returned (.bool true) ∧ Kep w.heap.size w w') := Lib.hid (fun v w h => by have := rfw L hl9 HF v w h; rw [hfew] at this; exact this)
  obtain ⟨hm, hcl⟩ := few_ok hfew
  have HOK : Hid (∀ x ∈ L, EntOk x) := Lib.hid (fun x hx => ⟨HU.out x hx, HF.out x hx, hcl x hx⟩)
  have HFC : Hid (∀ x ∈ L, FitE x ∧ (cellsB x.a x.b x.c x.d).length ≤ 1000000) := Lib.hid (fun x hx => ⟨HF.out x hx, by have := hcl x hx; omega⟩)
  have ll : ((L.length : Int) == (L.length : Int)) = true := by simp
  clear hcl
  go_enter Tryd.func3, Tryd.ntmps3
  go_wp2_with (first
    | ((with_reducible refine (AW.out _ (F0.kep (by (repeat (first | with_reducible assumption | refine kep_more ?_ _ | refine kep_drew ?_ | exact Kep.refl _ _))))).mono ?_); rintro e w1 ⟨rfl, g1⟩
       have n0 := Kep.all g1 (a := ⟨w.heap.size, 0, none⟩) (v := .int .i32 px) (by (repeat (first | rw [World.cell?_drew] | rw [World.cell?_alloc_past _ _ _ (by first | (simp; done) | (simp; omega))])); rw [World.cell?_alloc_at _ _ _ _ (by simp)]; rfl)
       have n1 := Kep.all g1 (a := ⟨w.heap.size, 1, none⟩) (v := .int .i32 py) (by (repeat (first | rw [World.cell?_drew] | rw [World.cell?_alloc_past _ _ _ (by first | (simp; done) | (simp; omega))])); rw [World.cell?_alloc_at _ _ _ _ (by simp)]; rfl)
       have gg := kep_next (kep_more (Kep.refl _ _) _) g1
       have ql := HQ.out.kep (kep_next (kep_more (Kep.refl _ _) _) g1)
       have zn_w1 : w.heap.size < w1.heap.size := World.block_lt_of_cell? _ _ n0)
    | ((with_reducible refine (FW.out _ _ ql).mono ?_); rintro e w2 ⟨rfl, g2⟩
       replace ql := ql.kep g2
       replace n0 := Kep.all g2 (a := ⟨w.heap.size, 0, none⟩) (v := .int .i32 px) n0
       replace n1 := Kep.all g2 (a := ⟨w.heap.size, 1, none⟩) (v := .int .i32 py) n1
       replace gg := kep_next gg g2
       have zn_w2 : w.heap.size < w2.heap.size := World.block_lt_of_cell? _ _ n0)
    | (refine (fill_any O w2.heap.size (fun k => k = w2.heap.size) [] L _ _ (O.new w2 (F0.kep gg)) (ql.kep (kep_more (Kep.refl _ _) _)) (fun hl => off_ge ev_len (by decide) ql (fun k q => by omega) hl) HOK.out (by simp; omega)).mono ?_; rintro e w3 ⟨⟨u, rfl⟩, S3, hgi, hm3, ho3⟩
       have g3 : Kep w2.heap.size w2 w3 := (kep_more (Kep.refl _ _) _).trans (ho3.kep (by simp) (fun k q => by omega))
       rw [List.nil_append] at hgi
       replace ql := ql.kep g3
       replace n0 := Kep.all g3 (a := ⟨w.heap.size, 0, none⟩) (v := .int .i32 px) n0
       replace n1 := Kep.all g3 (a := ⟨w.heap.size, 1, none⟩) (v := .int .i32 py) n1
       replace gg := kep_next gg g3
       have zn_w3 : w.heap.size < w3.heap.size := World.block_lt_of_cell? _ _ n0))
  refine wp_region_noPanic ?_
  refine wp_region_held_drew (S := (fun w' => w'.cell? ⟨w.heap.size, 0, none⟩ = some (.int .i32 px) ∧ w'.cell? ⟨w.heap.size, 1, none⟩ = some (.int .i32 py) ∧ Kep w.heap.size w w')) (by kernel_rfl) (⟨by rw [World.cell?_drew]; exact n0, by rw [World.cell?_drew]; exact n1, kep_drew gg⟩) (fun hH => ?_)
  refine wpAnyH_take (i := 1) (oi := { dst := some 17, op := Op.move (Operand.tmp 0), type := _, pos := _, after := _, guard := none }) (v := ?_) rfl (by kernel_rfl) (by kernel_rfl) (by kernel_rfl) (fun _ _ _ h => h) (Or.inl ⟨by rfl, ?_⟩) hH ?_
  rotate_left
  · (intro w hSw; (try dsimp only at hSw); go_simp; (try with_reducible rfl))
  try simp only [Act.put, List.setIfInBounds_toArray, List.set_cons_zero, List.set_cons_succ]
  refine wpAnyH_take (i := 2) (oi := { dst := some 18, op := Op.call { callee := Callee.builtin Builtin.len, args := #[Operand.tmp 17], argTypes := #[22] }, type := _, pos := _, after := _, guard := none }) (v := ?_) rfl (by kernel_rfl) (by kernel_rfl) (by kernel_rfl) (fun _ _ _ h => h) (Or.inl ⟨by rfl, ?_⟩) hH ?_
  rotate_left
  · (intro w hSw; (try dsimp only at hSw); go_simp; (try with_reducible rfl))
  try simp only [Act.put, List.setIfInBounds_toArray, List.set_cons_zero, List.set_cons_succ]
  refine wpAnyH_ready (rs := [0]) (by kernel_rfl) (by simp) ?_
  refine AllReadyH.cons (o := { dst := some 16, op := Op.call { callee := Callee.value (Operand.func 16), args := #[Operand.tmp 5], argTypes := #[30] }, type := _, pos := _, after := _, guard := none }) rfl (fun K hK => ?_) AllReadyH.nil
  go_simp
  refine (O.len w2.heap.size S3 L _ (O.kep hgi (kep_drew (Kep.refl _ _))) (by omega)).mono ?_; rintro e v5_0 ⟨rfl, g⟩
  replace hgi := O.kep (O.kep hgi (kep_drew (Kep.refl _ _))) g
  replace ql := (ql.kep (kep_drew (Kep.refl _ _))).kep g
  refine hK.out _ _ (by (try dsimp only); (go_split_ands; exact ⟨Kep.all g (by assumption), Kep.all g (by assumption), kep_next (by assumption) g⟩)) (fun hH2 => ?_)
  clear hK K hH; have hH := hH2; clear hH2
  try simp only [Act.put, List.setIfInBounds_toArray, List.set_cons_zero, List.set_cons_succ]
  refine wpAnyH_take (i := 3) (oi := { dst := some 19, op := Op.binOp BinOp.eql 3 (Operand.tmp 16) (Operand.tmp 18) 3, type := _, pos := _, after := _, guard := none }) (v := ?_) rfl (by kernel_rfl) (by kernel_rfl) (by kernel_rfl) (fun _ _ _ h => h) (Or.inl ⟨by rfl, ?_⟩) hH ?_
  rotate_left
  · (intro w hSw; (try dsimp only at hSw); go_simp; (try with_reducible rfl))
  try simp only [Act.put, List.setIfInBounds_toArray, List.set_cons_zero, List.set_cons_succ]
  refine wpAnyH_take (i := 4) (oi := { dst := some 20, op := Op.move (Operand.tmp 19), type := _, pos := _, after := _, guard := none }) (v := ?_) rfl (by kernel_rfl) (by kernel_rfl) (by kernel_rfl) (fun _ _ _ h => h) (Or.inl ⟨by rfl, ?_⟩) hH ?_
  rotate_left
  · (intro w hSw; (try dsimp only at hSw); go_simp; (try with_reducible rfl))
  try simp only [Act.put, List.setIfInBounds_toArray, List.set_cons_zero, List.set_cons_succ]
  refine wpAnyH_take (i := 6) (oi := { dst := some 22, op := Op.move (Operand.tmp 0), type := _, pos := _, after := _, guard := some (4, true) }) (v := ?_) rfl (by kernel_rfl) (by kernel_rfl) (by kernel_rfl) (fun _ _ _ h => h) (Or.inl ⟨by rfl, ?_⟩) hH ?_
  rotate_left
  · (intro w hSw; (try dsimp only at hSw); go_simp; (try with_reducible rfl))
  try simp only [Act.put, List.setIfInBounds_toArray, List.set_cons_zero, List.set_cons_succ]
  refine wpAnyH_ready (rs := [5]) (by kernel_rfl) (by simp) ?_
  refine AllReadyH.cons (o := { dst := some 21, op := Op.call { callee := Callee.value (Operand.func 18), args := #[Operand.tmp 5], argTypes := #[30] }, type := _, pos := _, after := _, guard := some (4, true) }) rfl (fun K hK => ?_) AllReadyH.nil
  go_simp
  refine (O.cand w2.heap.size S3 L _ hgi HOK.out (by omega)).mono ?_; rintro e v5_5 ⟨c1, rfl, ⟨qc, _⟩, g⟩
  replace hgi := O.kep hgi g
  replace ql := ql.kep g
  refine hK.out _ _ (by (try dsimp only); (go_split_ands; exact ⟨Kep.all g (by assumption), Kep.all g (by assumption), kep_next (by assumption) g⟩)) (fun hH2 => ?_)
  clear hK K hH; have hH := hH2; clear hH2
  try simp only [Act.put, List.setIfInBounds_toArray, List.set_cons_zero, List.set_cons_succ]
  refine wpAnyH_ready (rs := [7]) (by kernel_rfl) (by simp) ?_
  refine AllReadyH.cons (o := { dst := some 23, op := Op.call { callee := Callee.value (Operand.func 19), args := #[Operand.tmp 22], argTypes := #[22] }, type := _, pos := _, after := _, guard := some (4, true) }) rfl (fun K hK => ?_) AllReadyH.nil
  go_simp
  refine (rca L hm HFC _ _ ql).mono ?_; rintro e v5_7 ⟨c2, rfl, ⟨qd, _⟩, g⟩
  replace hgi := O.kep hgi g
  replace ql := ql.kep g
  replace qc := qc.kep g
  refine hK.out _ _ (by (try dsimp only); (go_split_ands; exact ⟨Kep.all g (by assumption), Kep.all g (by assumption), kep_next (by assumption) g⟩)) (fun hH2 => ?_)
  clear hK K hH; have hH := hH2; clear hH2
  try simp only [Act.put, List.setIfInBounds_toArray, List.set_cons_zero, List.set_cons_succ]
  refine wpAnyH_ready (rs := [8]) (by kernel_rfl) (by simp) ?_
  refine AllReadyH.cons (o := { dst := some 24, op := Op.call { callee := Callee.value (Operand.func 17), args := #[Operand.tmp 21, Operand.tmp 23], argTypes := #[35, 35] }, type := _, pos := _, after := _, guard := some (4, true) }) rfl (fun K hK => ?_) AllReadyH.nil
  go_simp
  refine (spm (candL L) (by have := candL_len hm; omega) _ _ _ qc qd).mono ?_; rintro e v5_8 ⟨rfl, g⟩
  replace hgi := O.kep hgi g
  replace ql := ql.kep g
  refine hK.out _ _ (by (try dsimp only); (go_split_ands; exact ⟨Kep.all g (by assumption), Kep.all g (by assumption), kep_next (by assumption) g⟩)) (fun hH2 => ?_)
  clear hK K hH; have hH := hH2; clear hH2
  try simp only [Act.put, List.setIfInBounds_toArray, List.set_cons_zero, List.set_cons_succ]
  refine wpAnyH_take (i := 9) (oi := { dst := some 25, op := Op.pick (Operand.tmp 20) (Operand.tmp 24) (Operand.const (Value.bool false)), type := _, pos := _, after := _, guard := none }) (v := ?_) rfl (by kernel_rfl) (by kernel_rfl) (by kernel_rfl) (fun _ _ _ h => h) (Or.inl ⟨by rfl, ?_⟩) hH ?_
  rotate_left
  · (intro w hSw; (try dsimp only at hSw); go_simp; (try with_reducible rfl))
  try simp only [Act.put, List.setIfInBounds_toArray, List.set_cons_zero, List.set_cons_succ]
  refine wpAnyH_take (i := 10) (oi := { dst := some 26, op := Op.move (Operand.tmp 25), type := _, pos := _, after := _, guard := none }) (v := ?_) rfl (by kernel_rfl) (by kernel_rfl) (by kernel_rfl) (fun _ _ _ h => h) (Or.inl ⟨by rfl, ?_⟩) hH ?_
  rotate_left
  · (intro w hSw; (try dsimp only at hSw); go_simp; (try with_reducible rfl))
  try simp only [Act.put, List.setIfInBounds_toArray, List.set_cons_zero, List.set_cons_succ]
  refine wpAnyH_take (i := 11) (oi := { dst := some 27, op := Op.load 24 (Operand.tmp 3), type := _, pos := _, after := _, guard := some (10, true) }) (v := ?_) rfl (by kernel_rfl) (by kernel_rfl) (by kernel_rfl) (fun _ _ _ h => h) (Or.inl ⟨by rfl, ?_⟩) hH ?_
  rotate_left
  · (intro w hSw; (try dsimp only at hSw); go_simp; (try with_reducible rfl))
  try simp only [Act.put, List.setIfInBounds_toArray, List.set_cons_zero, List.set_cons_succ]
  refine wpAnyH_take (i := 13) (oi := { dst := some 29, op := Op.move (Operand.tmp 0), type := _, pos := _, after := _, guard := some (10, true) }) (v := ?_) rfl (by kernel_rfl) (by kernel_rfl) (by kernel_rfl) (fun _ _ _ h => h) (Or.inl ⟨by rfl, ?_⟩) hH ?_
  rotate_left
  · (intro w hSw; (try dsimp only at hSw); go_simp; (try with_reducible rfl))
  try simp only [Act.put, List.setIfInBounds_toArray, List.set_cons_zero, List.set_cons_succ]
  refine wpAnyH_take (i := 14) (oi := { dst := some 30, op := Op.load 24 (Operand.tmp 3), type := _, pos := _, after := _, guard := some (10, true) }) (v := ?_) rfl (by kernel_rfl) (by kernel_rfl) (by kernel_rfl) (fun _ _ _ h => h) (Or.inl ⟨by rfl, ?_⟩) hH ?_
  rotate_left
  · (intro w hSw; (try dsimp only at hSw); go_simp; (try with_reducible rfl))
  try simp only [Act.put, List.setIfInBounds_toArray, List.set_cons_zero, List.set_cons_succ]
  refine wpAnyH_ready (rs := [12]) (by kernel_rfl) (by simp) ?_
  refine AllReadyH.cons (o := { dst := some 28, op := Op.call { callee := Callee.value (Operand.func 21), args := #[Operand.tmp 5, Operand.tmp 27], argTypes := #[30, 24] }, type := _, pos := _, after := _, guard := some (10, true) }) rfl (fun K hK => ?_) AllReadyH.nil
  go_simp
  refine (O.at_ w2.heap.size S3 L px py _ hgi HOK.out (by omega) hx hy).mono ?_; rintro e v5_12 ⟨k1, rfl, ⟨qk, _⟩, g⟩
  replace ql := ql.kep g
  refine hK.out _ _ (by (try dsimp only); (go_split_ands; exact ⟨Kep.all g (by assumption), Kep.all g (by assumption), kep_next (by assumption) g⟩)) (fun hH2 => ?_)
  clear hK K hH; have hH := hH2; clear hH2
  try simp only [Act.put, List.setIfInBounds_toArray, List.set_cons_zero, List.set_cons_succ]
  refine wpAnyH_ready (rs := [15]) (by kernel_rfl) (by simp) ?_
  refine AllReadyH.cons (o := { dst := some 31, op := Op.call { callee := Callee.value (Operand.func 22), args := #[Operand.tmp 29, Operand.tmp 30], argTypes := #[22, 24] }, type := _, pos := _, after := _, guard := some (10, true) }) rfl (fun K hK => ?_) AllReadyH.nil
  go_simp
  refine (rat L hm HFC px py hx hy _ _ ql).mono ?_; rintro e v5_15 ⟨k2, rfl, ⟨qm, _⟩, g⟩
  replace qk := qk.kep g
  refine hK.out _ _ (by (try dsimp only); (go_split_ands; exact ⟨Kep.all g (by assumption), Kep.all g (by assumption), kep_next (by assumption) g⟩)) (fun hH2 => ?_)
  clear hK K hH; have hH := hH2; clear hH2
  try simp only [Act.put, List.setIfInBounds_toArray, List.set_cons_zero, List.set_cons_succ]
  refine wpAnyH_ready (rs := [16]) (by kernel_rfl) (by simp) ?_
  refine AllReadyH.cons (o := { dst := some 32, op := Op.call { callee := Callee.value (Operand.func 20), args := #[Operand.tmp 28, Operand.tmp 31], argTypes := #[27, 27] }, type := _, pos := _, after := _, guard := some (10, true) }) rfl (fun K hK => ?_) AllReadyH.nil
  go_simp
  refine (keys_any _ _ _ _ _ (keyS.klst qk) (keyS.klst qm) (by have := atL_len (n := bktN (colN px) (colN py)) hm; omega) true (by simp)).mono ?_; rintro e v5_16 ⟨rfl, g⟩
  refine hK.out _ _ (by (try dsimp only); (go_split_ands; exact ⟨Kep.all g (by assumption), Kep.all g (by assumption), kep_next (by assumption) g⟩)) (fun hH2 => ?_)
  clear hK K hH; have hH := hH2; clear hH2
  try simp only [Act.put, List.setIfInBounds_toArray, List.set_cons_zero, List.set_cons_succ]
  refine wpAnyH_take (i := 17) (oi := { dst := some 33, op := Op.pick (Operand.tmp 26) (Operand.tmp 32) (Operand.const (Value.bool false)), type := _, pos := _, after := _, guard := none }) (v := ?_) rfl (by kernel_rfl) (by kernel_rfl) (by kernel_rfl) (fun _ _ _ h => h) (Or.inl ⟨by rfl, ?_⟩) hH ?_
  rotate_left
  · (intro w hSw; (try dsimp only at hSw); go_simp; (try with_reducible rfl))
  try simp only [Act.put, List.setIfInBounds_toArray, List.set_cons_zero, List.set_cons_succ]
  refine wpAnyH_take (i := 18) (oi := { dst := some 4, op := Op.assign (Operand.tmp 33), type := _, pos := _, after := _, guard := none }) (v := ?_) rfl (by kernel_rfl) (by kernel_rfl) (by kernel_rfl) (fun _ _ _ h => h) (Or.inl ⟨by rfl, ?_⟩) hH ?_
  rotate_left
  · (intro w hSw; (try dsimp only at hSw); go_simp; (try with_reducible rfl))
  try simp only [Act.put, List.setIfInBounds_toArray, List.set_cons_zero, List.set_cons_succ]
  refine wpAnyH_done (by kernel_rfl) ?_ _
  refine NoPanic.normal ?_
  clear n0 n1 gg
  obtain ⟨n0, n1, gg⟩ := hH
  go_wp2_with fail
  go_ret
  exact ⟨rfl, gg⟩
/-- The law GridMatchesReference. -/
theorem gml_law {GI : World → Nat → (Nat → Prop) → List Ent → Prop} (O : GOps GI) (AW : GAwake) (px py : Int) (hx : In3 px) (hy : In3 py) (L : List Ent) (hl9 : L.length ≤ 9223372036854775807) (HF : Hid (∀ x ∈ L, FitE x)) (v : Value) (w : World) (F0 : Fac w) (hq : Sq ev 5 w v L) (HU : Hid (∀ x ∈ L, (Lit.int .u32 x.k).wf = true)) : Calls Tryd.prog 3 #[v, .agg #[.int .i32 px, .int .i32 py]] w fun e w' => e = .returned (.bool true) ∧ Kep w.heap.size w w' := by
  cases hfew : fewB L
  · exact gml_bad (Lib.hid AW) px py L hl9 HF v w F0 hq hfew
  · exact gml_ok O (Lib.hid AW) px py hx hy L hl9 HF v w F0 hq HU hfew
end Go.Proofs.YtnmnbogjnjbopaaDoor
