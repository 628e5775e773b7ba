/-
  Package grid: the reference's PutPair, SamePairs.
-/
import Derived.Test.YtnmnbogjnjbopaaDoorGridRef1
import Derived.Deep.DeepCutAuto
namespace Go.Proofs.YtnmnbogjnjbopaaDoor
open Go.RowKit Go.Lib

theorem pair_cmp (a b c d : Int) (z : Bool) (h : decide (a = c ∧ b = d) = z) (w : World) : (binOp .eql 44 (.agg #[.int .u32 a, .int .u32 b]) (.agg #[.int .u32 c, .int .u32 d])).run Tryd.prog w = .ok (.bool z) w := by
  rw [← h]
  by_cases e0 : a = c
  · by_cases e1 : b = d
    · subst e0; subst e1
      simp [go_sem]
    · subst e0
      simp [go_sem, e1]
  · simp [go_sem, e0]
theorem pair_ncmp (a b c d : Int) (z : Bool) (h : decide (a = c ∧ b = d) = z) (w : World) : (binOp .neq 44 (.agg #[.int .u32 a, .int .u32 b]) (.agg #[.int .u32 c, .int .u32 d])).run Tryd.prog w = .ok (.bool (!z)) w := by
  rw [← h]
  by_cases e0 : a = c
  · by_cases e1 : b = d
    · subst e0; subst e1
      simp [go_sem]
    · subst e0
      simp [go_sem, e1]
  · simp [go_sem, e0]
theorem info_pair : (Tryd.prog.info? 44).map (fun i => (i.zero, i.size, i.bytes)) = some (some (.agg #[.int .u32 0, .int .u32 0]), 2, 8) := by kernel_rfl
theorem take_while {α : Type} {t : α → Bool} : ∀ {L : List α} {k : Nat}, (∀ x ∈ L.take k, t x = true) → (∀ x, L[k]? = some x → t x = false) → L.takeWhile t = L.take k ∧ L.dropWhile t = L.drop k
  | [], k, _, _ => by simp
  | x :: L, 0, _, h => by
    have := h x rfl
    rw [List.takeWhile_cons_of_neg (by simp [this]), List.dropWhile_cons_of_neg (by simp [this])]
    simp
  | x :: L, k + 1, h1, h2 => by
    have hx := h1 x (by simp)
    obtain ⟨i1, i2⟩ := take_while (L := L) (k := k) (fun y hy => h1 y (by simp [hy])) (fun y hy => h2 y (by simpa using hy))
    rw [List.takeWhile_cons_of_pos hx, List.dropWhile_cons_of_pos hx, i1, i2]
    simp
theorem putS_eq {L : List (Int × Int)} {p : Int × Int} {k : Nat} (h1 : ∀ x ∈ L.take k, pless x p = true) (h2 : ∀ x, L[k]? = some x → pless x p = false) : putS pless L p = L.take k ++ p :: dropOne p (L.drop k) := by
  obtain ⟨e1, e2⟩ := take_while h1 h2
  unfold putS
  rw [e1, e2]
theorem drop_is {L : List (Int × Int)} {a b c d : Int} {k : Nat} (h : L[k]? = some (a, b)) (e : a = c ∧ b = d) : dropOne (c, d) (L.drop k) = L.drop (k + 1) := by
  obtain ⟨hk, q⟩ := List.getElem?_eq_some_iff.1 h
  rw [List.drop_eq_getElem_cons hk, q, dropOne_cons, if_pos (by rw [e.1, e.2])]
theorem drop_not {L : List (Int × Int)} {a b c d : Int} {k : Nat} (h : L[k]? = some (a, b)) (e : ¬ (a = c ∧ b = d)) : dropOne (c, d) (L.drop k) = L.drop k := by
  obtain ⟨hk, q⟩ := List.getElem?_eq_some_iff.1 h
  rw [List.drop_eq_getElem_cons hk, q, dropOne_cons, if_neg (fun h => e (by injection h with h1 h2; exact ⟨h1, h2⟩))]
abbrev RPp (L : List (Int × Int)) (pa pb : Int) : Prop := ∀ v w, Sq pv 2 w v L → Rmy v → Calls Tryd.prog 47 #[v, .agg #[.int .u32 pa, .int .u32 pb]] w fun e w' => ∃ v', e = .returned v' ∧ (Sq pv 2 w' v' (putS pless L (pa, pb)) ∧ Rmy v') ∧ Kep w.heap.size w w'
set_option maxRecDepth 100000 in
set_option maxHeartbeats 4000000 in
theorem rpp (L : List (Int × Int)) (pa pb : Int) (hm : L.length ≤ 1000000) : RPp L pa pb := fun v w h hr => by
  obtain ⟨base, cap, rfl, H⟩ := h
  have hcap : L.length ≤ cap := hr _ _ _ rfl
  have HC := Lib.hid H
  clear H hr
  generalize hl : L.length = len at *
  have HN := Lib.hid hl
  clear hl
  go_enter Tryd.func47, Tryd.ntmps47
  go_wp2_with fail
  obtain ⟨W1, hW1⟩ : ∃ W1, W1 = w.alloc (.cells #[.int .u32 pa, .int .u32 pb] 44) := ⟨_, rfl⟩
  rw [← hW1]
  have p0 : W1.cell? ⟨w.heap.size, 0, none⟩ = some (.int .u32 pa) := by rw [hW1, World.cell?_alloc_at _ _ _ _ (by simp)]; rfl
  have p1 : W1.cell? ⟨w.heap.size, 1, none⟩ = some (.int .u32 pb) := by rw [hW1, World.cell?_alloc_at _ _ _ _ (by simp)]; rfl
  have HP0 := Lib.hid p0
  have HP1 := Lib.hid p1
  have K0 := Lib.hid (show Kep w.heap.size w W1 by rw [hW1]; exact kep_more (Kep.refl _ _) _)
  clear hW1 p0 p1
  go_loopw [5, 6] (fun out i wr => ∃ k : Nat, k ≤ len ∧ i = .int .i64 k ∧ Hid (∀ x ∈ L.take k, pless x (pa, pb) = true) ∧ Hid (wr.ownsRow W1.heap.size 44 2 out (L.take k).length ((L.take k).flatMap pv) ∧ Kep W1.heap.size W1 wr)) (fun _ i _ => len - (RowKit.intOf i).toNat)
  case atStart => exact ⟨0, by omega, rfl, Lib.hid (by simp), Lib.hid ⟨World.ownsRow_nil _ _ _ _, Kep.refl _ _⟩⟩
  case round =>
    obtain ⟨k, hk, rfl, HT, HP⟩ := hrel
    have gg := HP.out.2
    have HO := Lib.hid HP.out.1
    have hlk : (L.take k).length = k := by rw [List.length_take]; have := HN.out; omega
    have HLK := Lib.hid hlk
    clear HP hlk
    have p0 := gg.all HP0.out
    have p1 := gg.all HP1.out
    by_cases hlt : k < len
    · have hb : L[k]? = some (L[k]'(by rw [HN.out]; exact hlt)) := List.getElem?_eq_getElem _
      generalize L[k]'(by rw [HN.out]; exact hlt) = x at hb
      obtain ⟨gl, off, rfl, q⟩ := HC.out k x hb
      obtain ⟨ta, tb⟩ := x
      have HT0 : Hid (W1.cell? ⟨gl, off + k * 2, none⟩ = some (.int .u32 ta)) := Lib.hid (K0.out.all (q 0 _ rfl))
      have HT1 : Hid (W1.cell? ⟨gl, off + k * 2 + 1, none⟩ = some (.int .u32 tb)) := Lib.hid (K0.out.all (q 1 _ rfl))
      have t0 := gg.all HT0.out
      have t1 := gg.all HT1.out
      have HB := Lib.hid hb
      clear hb q
      obtain ⟨z, hz⟩ : ∃ z, pless (ta, tb) (pa, pb) = z := ⟨_, rfl⟩
      have C1 := Lib.hid (rls ta tb pa pb z hz)
      have HZ := Lib.hid hz
      clear hz
      go_wp2_with fail
      refine wp_region_noPanic ?_
      refine wp_region_held_drew (S := (fun w' => w'.cell? ⟨w.heap.size, 0, none⟩ = some (.int .u32 pa) ∧ w'.cell? ⟨w.heap.size, 1, none⟩ = some (.int .u32 pb) ∧ w'.cell? ⟨gl, off + k * 2, none⟩ = some (.int .u32 ta) ∧ w'.cell? ⟨gl, off + k * 2 + 1, none⟩ = some (.int .u32 tb) ∧ Kep W1.heap.size W1 w')) (by kernel_rfl) (⟨by rw [World.cell?_drew]; exact p0, by rw [World.cell?_drew]; exact p1, by rw [World.cell?_drew]; exact t0, by rw [World.cell?_drew]; exact t1, kep_drew gg⟩) (fun hH => ?_)
      refine wpAnyH_take (i := 0) (oi := { dst := some 7, op := Op.move (Operand.tmp 6), type := _, pos := _, after := _, guard := none }) (v := ?_) rfl (by kernel_rfl) (by kernel_rfl) (by kernel_rfl) (fun _ _ _ h => h) (Or.inl ⟨by rfl, ?_⟩) hH ?_
      rotate_left
      · (intro w hSw; (try dsimp only at hSw); go_simp; (try with_reducible rfl))
      try simp only [Act.put, List.setIfInBounds_toArray, List.set_cons_zero, List.set_cons_succ]
      refine wpAnyH_take (i := 1) (oi := { dst := some 8, op := Op.move (Operand.tmp 0), type := _, pos := _, after := _, guard := none }) (v := ?_) rfl (by kernel_rfl) (by kernel_rfl) (by kernel_rfl) (fun _ _ _ h => h) (Or.inl ⟨by rfl, ?_⟩) hH ?_
      rotate_left
      · (intro w hSw; (try dsimp only at hSw); go_simp; (try with_reducible rfl))
      try simp only [Act.put, List.setIfInBounds_toArray, List.set_cons_zero, List.set_cons_succ]
      refine wpAnyH_take (i := 2) (oi := { dst := some 9, op := Op.call { callee := Callee.builtin Builtin.len, args := #[Operand.tmp 8], argTypes := #[35] }, type := _, pos := _, after := _, guard := none }) (v := ?_) rfl (by kernel_rfl) (by kernel_rfl) (by kernel_rfl) (fun _ _ _ h => h) (Or.inl ⟨by rfl, ?_⟩) hH ?_
      rotate_left
      · (intro w hSw; (try dsimp only at hSw); go_simp; (try with_reducible rfl))
      try simp only [Act.put, List.setIfInBounds_toArray, List.set_cons_zero, List.set_cons_succ]
      refine wpAnyH_take (i := 3) (oi := { dst := some 10, op := Op.binOp BinOp.lss 3 (Operand.tmp 7) (Operand.tmp 9) 3, type := _, pos := _, after := _, guard := none }) (v := ?_) rfl (by kernel_rfl) (by kernel_rfl) (by kernel_rfl) (fun _ _ _ h => h) (Or.inl ⟨by rfl, ?_⟩) hH ?_
      rotate_left
      · (intro w hSw; (try dsimp only at hSw); go_simp; (try with_reducible rfl))
      try simp only [Act.put, List.setIfInBounds_toArray, List.set_cons_zero, List.set_cons_succ]
      refine wpAnyH_take (i := 4) (oi := { dst := some 11, op := Op.move (Operand.tmp 10), type := _, pos := _, after := _, guard := none }) (v := ?_) rfl (by kernel_rfl) (by kernel_rfl) (by kernel_rfl) (fun _ _ _ h => h) (Or.inl ⟨by rfl, ?_⟩) hH ?_
      rotate_left
      · (intro w hSw; (try dsimp only at hSw); go_simp; (try with_reducible rfl))
      try simp only [Act.put, List.setIfInBounds_toArray, List.set_cons_zero, List.set_cons_succ]
      refine wpAnyH_take (i := 5) (oi := { dst := some 12, op := Op.move (Operand.tmp 0), type := _, pos := _, after := _, guard := some (4, true) }) (v := ?_) rfl (by kernel_rfl) (by kernel_rfl) (by kernel_rfl) (fun _ _ _ h => h) (Or.inl ⟨by rfl, ?_⟩) hH ?_
      rotate_left
      · (intro w hSw; (try dsimp only at hSw); go_simp; (try with_reducible rfl))
      try simp only [Act.put, List.setIfInBounds_toArray, List.set_cons_zero, List.set_cons_succ]
      refine wpAnyH_take (i := 6) (oi := { dst := some 13, op := Op.move (Operand.tmp 6), type := _, pos := _, after := _, guard := some (4, true) }) (v := ?_) rfl (by kernel_rfl) (by kernel_rfl) (by kernel_rfl) (fun _ _ _ h => h) (Or.inl ⟨by rfl, ?_⟩) hH ?_
      rotate_left
      · (intro w hSw; (try dsimp only at hSw); go_simp; (try with_reducible rfl))
      try simp only [Act.put, List.setIfInBounds_toArray, List.set_cons_zero, List.set_cons_succ]
      refine wpAnyH_take (i := 7) (oi := { dst := some 14, op := Op.indexAddr 35 (Operand.tmp 12) (Operand.tmp 13), type := _, pos := _, after := _, guard := some (4, true) }) (v := ?_) rfl (by kernel_rfl) (by kernel_rfl) (by kernel_rfl) (fun _ _ _ h => h) (Or.inl ⟨by rfl, ?_⟩) hH ?_
      rotate_left
      · (intro w hSw; (try dsimp only at hSw); go_simp; (try with_reducible rfl))
      try simp only [Act.put, List.setIfInBounds_toArray, List.set_cons_zero, List.set_cons_succ]
      refine wpAnyH_take (i := 8) (oi := { dst := some 15, op := Op.load 44 (Operand.tmp 14), type := _, pos := _, after := _, guard := some (4, true) }) (v := ?_) rfl (by kernel_rfl) (by kernel_rfl) (by kernel_rfl) (fun _ _ _ h => h) (Or.inl ⟨by rfl, ?_⟩) hH ?_
      rotate_left
      · (intro w hSw; (try dsimp only at hSw); go_simp; (try with_reducible rfl))
      try simp only [Act.put, List.setIfInBounds_toArray, List.set_cons_zero, List.set_cons_succ]
      refine wpAnyH_take (i := 9) (oi := { dst := some 16, op := Op.load 44 (Operand.tmp 3), type := _, pos := _, after := _, guard := some (4, true) }) (v := ?_) rfl (by kernel_rfl) (by kernel_rfl) (by kernel_rfl) (fun _ _ _ h => h) (Or.inl ⟨by rfl, ?_⟩) hH ?_
      rotate_left
      · (intro w hSw; (try dsimp only at hSw); go_simp; (try with_reducible rfl))
      try simp only [Act.put, List.setIfInBounds_toArray, List.set_cons_zero, List.set_cons_succ]
      refine wpAnyH_ready (rs := [10]) (by kernel_rfl) (by simp) ?_
      refine AllReadyH.cons (o := { dst := some 17, op := Op.call { callee := Callee.value (Operand.func 23), args := #[Operand.tmp 15, Operand.tmp 16], argTypes := #[44, 44] }, type := _, pos := _, after := _, guard := some (4, true) }) rfl (fun K hK => ?_) AllReadyH.nil
      go_simp
      (with_reducible refine (C1.out _).mono ?_); rintro e v3_10 ⟨rfl, g⟩
      replace HO := Lib.hid (own_kep (World.ownsRow.drew HO.out) g (Nat.le_refl _))
      refine hK.out _ _ (by (try dsimp only); (go_split_ands; exact ⟨Kep.all g (by assumption), Kep.all g (by assumption), Kep.all g (by assumption), Kep.all g (by assumption), kep_next (by assumption) g⟩)) (fun hH2 => ?_)
      clear hK K hH; have hH := hH2; clear hH2
      try simp only [Act.put, List.setIfInBounds_toArray, List.set_cons_zero, List.set_cons_succ]
      refine wpAnyH_take (i := 11) (oi := { dst := some 18, op := Op.pick (Operand.tmp 11) (Operand.tmp 17) (Operand.const (Value.bool false)), type := _, pos := _, after := _, guard := none }) (v := ?_) rfl (by kernel_rfl) (by kernel_rfl) (by kernel_rfl) (fun _ _ _ h => h) (Or.inl ⟨by rfl, ?_⟩) hH ?_
      rotate_left
      · (intro w hSw; (try dsimp only at hSw); go_simp; (try with_reducible rfl))
      try simp only [Act.put, List.setIfInBounds_toArray, List.set_cons_zero, List.set_cons_succ]
      refine wpAnyH_done (by kernel_rfl) ?_ _
      refine NoPanic.normal ?_
      clear p0 p1 t0 t1 gg
      obtain ⟨p0, p1, t0, t1, gg⟩ := hH
      cases z
      · go_wp2_with (first
          | (at_builtin; refine wpList_app pv 2 pv_len pv_one rfl _ _ 35 rfl 44 _ 8 Tryd.underlying35 info_pair rfl (by decide) W1.heap.size _ _ _ (pa, pb) rfl HO.out _ (by first | rfl | simp) rfl _ rfl (by unfold maxLen; rw [HLK.out]; omega) (by rw [HLK.out]; omega) gg.size ?_; intro v3 w3 o3 k3))
        have gg3 := gg.trans k3
        clear gg p0 p1 t0 t1 k3
        have gg := gg3
        clear gg3
        have p0 := gg.all HP0.out
        have p1 := gg.all HP1.out
        have t0 := gg.all HT0.out
        have t1 := gg.all HT1.out
        have HO3 := Lib.hid o3
        clear o3
        have HLN : ∀ j, j ≤ k + 1 → Hid ((L.take k ++ [(pa, pb)]).length + (L.drop j).length = k + 1 + (len - j)) := fun j _ => Lib.hid (by rw [List.length_append, HLK.out, List.length_drop, HN.out]; rfl)
        obtain ⟨z2, hz2⟩ : ∃ z2, decide (ta = pa ∧ tb = pb) = z2 := ⟨_, rfl⟩
        have vv := fun w => pair_cmp ta tb pa pb z2 hz2 w
        have HZ2 := Lib.hid hz2
        clear hz2
        refine wp_region_noPanic ?_
        refine wp_region_held_drew (S := (fun w' => w'.cell? ⟨w.heap.size, 0, none⟩ = some (.int .u32 pa) ∧ w'.cell? ⟨w.heap.size, 1, none⟩ = some (.int .u32 pb) ∧ w'.cell? ⟨gl, off + k * 2, none⟩ = some (.int .u32 ta) ∧ w'.cell? ⟨gl, off + k * 2 + 1, none⟩ = some (.int .u32 tb) ∧ Kep W1.heap.size W1 w')) (by kernel_rfl) (⟨by rw [World.cell?_drew]; exact p0, by rw [World.cell?_drew]; exact p1, by rw [World.cell?_drew]; exact t0, by rw [World.cell?_drew]; exact t1, kep_drew gg⟩) (fun hH => ?_)
        refine wpAnyH_take (i := 0) (oi := { dst := some 32, op := Op.move (Operand.tmp 6), type := _, pos := _, after := _, guard := none }) (v := ?_) rfl (by kernel_rfl) (by kernel_rfl) (by kernel_rfl) (fun _ _ _ h => h) (Or.inl ⟨by rfl, ?_⟩) hH ?_
        rotate_left
        · (intro w hSw; (try dsimp only at hSw); go_simp; (try with_reducible rfl))
        try simp only [Act.put, List.setIfInBounds_toArray, List.set_cons_zero, List.set_cons_succ]
        refine wpAnyH_take (i := 1) (oi := { dst := some 33, op := Op.move (Operand.tmp 0), type := _, pos := _, after := _, guard := none }) (v := ?_) rfl (by kernel_rfl) (by kernel_rfl) (by kernel_rfl) (fun _ _ _ h => h) (Or.inl ⟨by rfl, ?_⟩) hH ?_
        rotate_left
        · (intro w hSw; (try dsimp only at hSw); go_simp; (try with_reducible rfl))
        try simp only [Act.put, List.setIfInBounds_toArray, List.set_cons_zero, List.set_cons_succ]
        refine wpAnyH_take (i := 2) (oi := { dst := some 34, op := Op.call { callee := Callee.builtin Builtin.len, args := #[Operand.tmp 33], argTypes := #[35] }, type := _, pos := _, after := _, guard := none }) (v := ?_) rfl (by kernel_rfl) (by kernel_rfl) (by kernel_rfl) (fun _ _ _ h => h) (Or.inl ⟨by rfl, ?_⟩) hH ?_
        rotate_left
        · (intro w hSw; (try dsimp only at hSw); go_simp; (try with_reducible rfl))
        try simp only [Act.put, List.setIfInBounds_toArray, List.set_cons_zero, List.set_cons_succ]
        refine wpAnyH_take (i := 3) (oi := { dst := some 35, op := Op.binOp BinOp.lss 3 (Operand.tmp 32) (Operand.tmp 34) 3, type := _, pos := _, after := _, guard := none }) (v := ?_) rfl (by kernel_rfl) (by kernel_rfl) (by kernel_rfl) (fun _ _ _ h => h) (Or.inl ⟨by rfl, ?_⟩) hH ?_
        rotate_left
        · (intro w hSw; (try dsimp only at hSw); go_simp; (try with_reducible rfl))
        try simp only [Act.put, List.setIfInBounds_toArray, List.set_cons_zero, List.set_cons_succ]
        refine wpAnyH_take (i := 4) (oi := { dst := some 36, op := Op.move (Operand.tmp 35), type := _, pos := _, after := _, guard := none }) (v := ?_) rfl (by kernel_rfl) (by kernel_rfl) (by kernel_rfl) (fun _ _ _ h => h) (Or.inl ⟨by rfl, ?_⟩) hH ?_
        rotate_left
        · (intro w hSw; (try dsimp only at hSw); go_simp; (try with_reducible rfl))
        try simp only [Act.put, List.setIfInBounds_toArray, List.set_cons_zero, List.set_cons_succ]
        refine wpAnyH_take (i := 5) (oi := { dst := some 37, op := Op.move (Operand.tmp 0), type := _, pos := _, after := _, guard := some (4, true) }) (v := ?_) rfl (by kernel_rfl) (by kernel_rfl) (by kernel_rfl) (fun _ _ _ h => h) (Or.inl ⟨by rfl, ?_⟩) hH ?_
        rotate_left
        · (intro w hSw; (try dsimp only at hSw); go_simp; (try with_reducible rfl))
        try simp only [Act.put, List.setIfInBounds_toArray, List.set_cons_zero, List.set_cons_succ]
        refine wpAnyH_take (i := 6) (oi := { dst := some 38, op := Op.move (Operand.tmp 6), type := _, pos := _, after := _, guard := some (4, true) }) (v := ?_) rfl (by kernel_rfl) (by kernel_rfl) (by kernel_rfl) (fun _ _ _ h => h) (Or.inl ⟨by rfl, ?_⟩) hH ?_
        rotate_left
        · (intro w hSw; (try dsimp only at hSw); go_simp; (try with_reducible rfl))
        try simp only [Act.put, List.setIfInBounds_toArray, List.set_cons_zero, List.set_cons_succ]
        refine wpAnyH_take (i := 7) (oi := { dst := some 39, op := Op.indexAddr 35 (Operand.tmp 37) (Operand.tmp 38), type := _, pos := _, after := _, guard := some (4, true) }) (v := ?_) rfl (by kernel_rfl) (by kernel_rfl) (by kernel_rfl) (fun _ _ _ h => h) (Or.inl ⟨by rfl, ?_⟩) hH ?_
        rotate_left
        · (intro w hSw; (try dsimp only at hSw); go_simp; (try with_reducible rfl))
        try simp only [Act.put, List.setIfInBounds_toArray, List.set_cons_zero, List.set_cons_succ]
        refine wpAnyH_take (i := 8) (oi := { dst := some 40, op := Op.load 44 (Operand.tmp 39), type := _, pos := _, after := _, guard := some (4, true) }) (v := ?_) rfl (by kernel_rfl) (by kernel_rfl) (by kernel_rfl) (fun _ _ _ h => h) (Or.inl ⟨by rfl, ?_⟩) hH ?_
        rotate_left
        · (intro w hSw; (try dsimp only at hSw); go_simp; (try with_reducible rfl))
        try simp only [Act.put, List.setIfInBounds_toArray, List.set_cons_zero, List.set_cons_succ]
        refine wpAnyH_take (i := 9) (oi := { dst := some 41, op := Op.load 44 (Operand.tmp 3), type := _, pos := _, after := _, guard := some (4, true) }) (v := ?_) rfl (by kernel_rfl) (by kernel_rfl) (by kernel_rfl) (fun _ _ _ h => h) (Or.inl ⟨by rfl, ?_⟩) hH ?_
        rotate_left
        · (intro w hSw; (try dsimp only at hSw); go_simp; (try with_reducible rfl))
        try simp only [Act.put, List.setIfInBounds_toArray, List.set_cons_zero, List.set_cons_succ]
        refine wpAnyH_take (i := 10) (oi := { dst := some 42, op := Op.binOp BinOp.eql 44 (Operand.tmp 40) (Operand.tmp 41) 44, type := _, pos := _, after := _, guard := some (4, true) }) (v := ?_) rfl (by kernel_rfl) (by kernel_rfl) (by kernel_rfl) (fun _ _ _ h => h) (Or.inl ⟨by rfl, ?_⟩) hH ?_
        rotate_left
        · (intro w hSw; (try dsimp only at hSw); go_simp; (try with_reducible rfl))
        try simp only [Act.put, List.setIfInBounds_toArray, List.set_cons_zero, List.set_cons_succ]
        refine wpAnyH_take (i := 11) (oi := { dst := some 43, op := Op.pick (Operand.tmp 36) (Operand.tmp 42) (Operand.const (Value.bool false)), type := _, pos := _, after := _, guard := none }) (v := ?_) rfl (by kernel_rfl) (by kernel_rfl) (by kernel_rfl) (fun _ _ _ h => h) (Or.inl ⟨by rfl, ?_⟩) hH ?_
        rotate_left
        · (intro w hSw; (try dsimp only at hSw); go_simp; (try with_reducible rfl))
        try simp only [Act.put, List.setIfInBounds_toArray, List.set_cons_zero, List.set_cons_succ]
        refine wpAnyH_done (by kernel_rfl) ?_ _
        refine NoPanic.normal ?_
        clear p0 p1 t0 t1 gg
        obtain ⟨p0, p1, t0, t1, gg⟩ := hH
        cases z2
        · go_wp2_with (first
            | (at_builtin; refine wpList_appAll pv 2 pv_len pv_one rfl _ _ 35 rfl 44 _ 8 Tryd.underlying35 info_pair rfl (by decide) W1.heap.size _ _ _ (L.take k ++ [(pa, pb)]) (L.drop (k)) rfl (World.ownsRow.drew HO3.out) rfl (((sq_drop HN.out HC.out).kep K0.out).kep gg) (by rw [(HLN _ (by omega)).out]; unfold maxLen; omega) (by rw [(HLN _ (by omega)).out]; omega) gg.size ?_; intro v5 w5 o5 k5))
          go_ret
          exact ⟨_, rfl, ⟨by rw [putS_eq HT.out (fun x hx => by rw [HB.out] at hx; injection hx with hx; rw [← hx]; exact HZ.out)]; exact own_sq pv_len (by rw [drop_not HB.out (of_decide_eq_false HZ2.out)]; simpa using o5), own_rmy o5⟩, K0.out.trans ((gg.trans k5).mono K0.out.size)⟩
        · obtain ⟨k1, hk1⟩ : ∃ k1, k1 = k + 1 := ⟨_, rfl⟩
          have e1 : (k : Int) + 1 = (k1 : Int) := by omega
          have l1 : k1 ≤ len := by omega
          have HK1 := Lib.hid hk1
          clear hk1
          by_cases hcp : cap = k1
          · have hl0 : len - k1 = 0 := by omega
            go_wp2_with (first
              | (at_builtin; refine wpList_appAll pv 2 pv_len pv_one rfl _ _ 35 rfl 44 _ 8 Tryd.underlying35 info_pair rfl (by decide) W1.heap.size _ _ _ (L.take k ++ [(pa, pb)]) (L.drop k1) rfl (World.ownsRow.drew HO3.out) rfl (sq_zero (List.drop_of_length_le (by rw [HN.out]; omega)) (by omega)) (by rw [(HLN k1 (by have := HK1.out; omega)).out]; unfold maxLen; omega) (by rw [(HLN k1 (by have := HK1.out; omega)).out]; omega) gg.size ?_; intro v5 w5 o5 k5))
            go_ret
            exact ⟨_, rfl, ⟨by rw [putS_eq HT.out (fun x hx => by rw [HB.out] at hx; injection hx with hx; rw [← hx]; exact HZ.out)]; exact own_sq pv_len (by rw [drop_is HB.out (of_decide_eq_true HZ2.out), ← HK1.out]; simpa using o5), own_rmy o5⟩, K0.out.trans ((gg.trans k5).mono K0.out.size)⟩
          · have hcp2 : cap - k1 ≠ 0 := by omega
            go_wp2_with (first
              | (at_builtin; refine wpList_appAll pv 2 pv_len pv_one rfl _ _ 35 rfl 44 _ 8 Tryd.underlying35 info_pair rfl (by decide) W1.heap.size _ _ _ (L.take k ++ [(pa, pb)]) (L.drop k1) rfl (World.ownsRow.drew HO3.out) rfl (((sq_drop HN.out HC.out).kep K0.out).kep gg) (by rw [(HLN k1 (by have := HK1.out; omega)).out]; unfold maxLen; omega) (by rw [(HLN k1 (by have := HK1.out; omega)).out]; omega) gg.size ?_; intro v5 w5 o5 k5))
            go_ret
            exact ⟨_, rfl, ⟨by rw [putS_eq HT.out (fun x hx => by rw [HB.out] at hx; injection hx with hx; rw [← hx]; exact HZ.out)]; exact own_sq pv_len (by rw [drop_is HB.out (of_decide_eq_true HZ2.out), ← HK1.out]; simpa using o5), own_rmy o5⟩, K0.out.trans ((gg.trans k5).mono K0.out.size)⟩
      · go_wp2_with (first
          | (at_builtin; refine wpList_app pv 2 pv_len pv_one rfl _ _ 35 rfl 44 _ 8 Tryd.underlying35 info_pair rfl (by decide) W1.heap.size _ _ _ (ta, tb) rfl HO.out _ (by first | rfl | simp) rfl _ rfl (by unfold maxLen; rw [HLK.out]; omega) (by rw [HLK.out]; omega) gg.size ?_; intro v3 w3 o3 k3))
        have ht : L.take (k + 1) = L.take k ++ [(ta, tb)] := by rw [List.take_add_one, HB.out]; rfl
        have HM : Hid (w3.ownsRow W1.heap.size 44 2 v3 (L.take (k + 1)).length ((L.take (k + 1)).flatMap pv) ∧ Kep W1.heap.size W1 w3) := Lib.hid (by
          rw [ht]
          exact ⟨o3, gg.trans k3⟩)
        have HT2 : Hid (∀ x ∈ L.take (k + 1), pless x (pa, pb) = true) := Lib.hid (fun x hx => by
          rw [ht] at hx
          rcases List.mem_append.1 hx with hx | hx
          · exact HT.out x hx
          · rw [List.mem_singleton.1 hx]
            exact HZ.out)
        clear o3 k3 ht
        go_roundw
        case rel => exact ⟨k + 1, by omega, by go_num, HT2, HM⟩
        case measure => simp [RowKit.intOf]; omega
    · obtain rfl : k = len := by omega
      go_wp2_with fail
      refine wp_region_noPanic ?_
      refine wp_region_held_drew (S := (fun w' => w'.cell? ⟨w.heap.size, 0, none⟩ = some (.int .u32 pa) ∧ w'.cell? ⟨w.heap.size, 1, none⟩ = some (.int .u32 pb) ∧ Kep W1.heap.size W1 w')) (by kernel_rfl) (⟨by rw [World.cell?_drew]; exact p0, by rw [World.cell?_drew]; exact p1, kep_drew gg⟩) (fun hH => ?_)
      refine wpAnyH_take (i := 0) (oi := { dst := some 7, op := Op.move (Operand.tmp 6), type := _, pos := _, after := _, guard := none }) (v := ?_) rfl (by kernel_rfl) (by kernel_rfl) (by kernel_rfl) (fun _ _ _ h => h) (Or.inl ⟨by rfl, ?_⟩) hH ?_
      rotate_left
      · (intro w hSw; (try dsimp only at hSw); go_simp; (try with_reducible rfl))
      try simp only [Act.put, List.setIfInBounds_toArray, List.set_cons_zero, List.set_cons_succ]
      refine wpAnyH_take (i := 1) (oi := { dst := some 8, op := Op.move (Operand.tmp 0), type := _, pos := _, after := _, guard := none }) (v := ?_) rfl (by kernel_rfl) (by kernel_rfl) (by kernel_rfl) (fun _ _ _ h => h) (Or.inl ⟨by rfl, ?_⟩) hH ?_
      rotate_left
      · (intro w hSw; (try dsimp only at hSw); go_simp; (try with_reducible rfl))
      try simp only [Act.put, List.setIfInBounds_toArray, List.set_cons_zero, List.set_cons_succ]
      refine wpAnyH_take (i := 2) (oi := { dst := some 9, op := Op.call { callee := Callee.builtin Builtin.len, args := #[Operand.tmp 8], argTypes := #[35] }, type := _, pos := _, after := _, guard := none }) (v := ?_) rfl (by kernel_rfl) (by kernel_rfl) (by kernel_rfl) (fun _ _ _ h => h) (Or.inl ⟨by rfl, ?_⟩) hH ?_
      rotate_left
      · (intro w hSw; (try dsimp only at hSw); go_simp; (try with_reducible rfl))
      try simp only [Act.put, List.setIfInBounds_toArray, List.set_cons_zero, List.set_cons_succ]
      refine wpAnyH_take (i := 3) (oi := { dst := some 10, op := Op.binOp BinOp.lss 3 (Operand.tmp 7) (Operand.tmp 9) 3, type := _, pos := _, after := _, guard := none }) (v := ?_) rfl (by kernel_rfl) (by kernel_rfl) (by kernel_rfl) (fun _ _ _ h => h) (Or.inl ⟨by rfl, ?_⟩) hH ?_
      rotate_left
      · (intro w hSw; (try dsimp only at hSw); go_simp; (try with_reducible rfl))
      try simp only [Act.put, List.setIfInBounds_toArray, List.set_cons_zero, List.set_cons_succ]
      refine wpAnyH_take (i := 4) (oi := { dst := some 11, op := Op.move (Operand.tmp 10), type := _, pos := _, after := _, guard := none }) (v := ?_) rfl (by kernel_rfl) (by kernel_rfl) (by kernel_rfl) (fun _ _ _ h => h) (Or.inl ⟨by rfl, ?_⟩) hH ?_
      rotate_left
      · (intro w hSw; (try dsimp only at hSw); go_simp; (try with_reducible rfl))
      try simp only [Act.put, List.setIfInBounds_toArray, List.set_cons_zero, List.set_cons_succ]
      refine wpAnyH_take (i := 5) (oi := { dst := some 12, op := Op.move (Operand.tmp 0), type := _, pos := _, after := _, guard := some (4, true) }) (v := undef) rfl (by kernel_rfl) (by kernel_rfl) (by kernel_rfl) (fun _ _ _ h => h) (Or.inr ⟨by rfl, rfl⟩) hH ?_
      try simp only [Act.put, List.setIfInBounds_toArray, List.set_cons_zero, List.set_cons_succ]
      refine wpAnyH_take (i := 6) (oi := { dst := some 13, op := Op.move (Operand.tmp 6), type := _, pos := _, after := _, guard := some (4, true) }) (v := undef) rfl (by kernel_rfl) (by kernel_rfl) (by kernel_rfl) (fun _ _ _ h => h) (Or.inr ⟨by rfl, rfl⟩) hH ?_
      try simp only [Act.put, List.setIfInBounds_toArray, List.set_cons_zero, List.set_cons_succ]
      refine wpAnyH_take (i := 7) (oi := { dst := some 14, op := Op.indexAddr 35 (Operand.tmp 12) (Operand.tmp 13), type := _, pos := _, after := _, guard := some (4, true) }) (v := undef) rfl (by kernel_rfl) (by kernel_rfl) (by kernel_rfl) (fun _ _ _ h => h) (Or.inr ⟨by rfl, rfl⟩) hH ?_
      try simp only [Act.put, List.setIfInBounds_toArray, List.set_cons_zero, List.set_cons_succ]
      refine wpAnyH_take (i := 8) (oi := { dst := some 15, op := Op.load 44 (Operand.tmp 14), type := _, pos := _, after := _, guard := some (4, true) }) (v := undef) rfl (by kernel_rfl) (by kernel_rfl) (by kernel_rfl) (fun _ _ _ h => h) (Or.inr ⟨by rfl, rfl⟩) hH ?_
      try simp only [Act.put, List.setIfInBounds_toArray, List.set_cons_zero, List.set_cons_succ]
      refine wpAnyH_take (i := 9) (oi := { dst := some 16, op := Op.load 44 (Operand.tmp 3), type := _, pos := _, after := _, guard := some (4, true) }) (v := undef) rfl (by kernel_rfl) (by kernel_rfl) (by kernel_rfl) (fun _ _ _ h => h) (Or.inr ⟨by rfl, rfl⟩) hH ?_
      try simp only [Act.put, List.setIfInBounds_toArray, List.set_cons_zero, List.set_cons_succ]
      refine wpAnyH_take (i := 10) (oi := { dst := some 17, op := Op.call { callee := Callee.value (Operand.func 23), args := #[Operand.tmp 15, Operand.tmp 16], argTypes := #[44, 44] }, type := _, pos := _, after := _, guard := some (4, true) }) (v := undef) rfl (by kernel_rfl) (by kernel_rfl) (by kernel_rfl) (fun _ _ _ h => h) (Or.inr ⟨by rfl, rfl⟩) hH ?_
      try simp only [Act.put, List.setIfInBounds_toArray, List.set_cons_zero, List.set_cons_succ]
      refine wpAnyH_take (i := 11) (oi := { dst := some 18, op := Op.pick (Operand.tmp 11) (Operand.tmp 17) (Operand.const (Value.bool false)), type := _, pos := _, after := _, guard := none }) (v := ?_) rfl (by kernel_rfl) (by kernel_rfl) (by kernel_rfl) (fun _ _ _ h => h) (Or.inl ⟨by rfl, ?_⟩) hH ?_
      rotate_left
      · (intro w hSw; (try dsimp only at hSw); go_simp; (try with_reducible rfl))
      try simp only [Act.put, List.setIfInBounds_toArray, List.set_cons_zero, List.set_cons_succ]
      refine wpAnyH_done (by kernel_rfl) ?_ _
      refine NoPanic.normal ?_
      clear p0 p1 gg
      obtain ⟨p0, p1, gg⟩ := hH
      go_wp2_with (first
        | (at_builtin; refine wpList_app pv 2 pv_len pv_one rfl _ _ 35 rfl 44 _ 8 Tryd.underlying35 info_pair rfl (by decide) W1.heap.size _ _ _ (pa, pb) rfl (World.ownsRow.drew HO.out) _ (by first | rfl | simp) rfl _ rfl (by unfold maxLen; rw [HLK.out]; omega) (by rw [HLK.out]; omega) gg.size ?_; intro v3 w3 o3 k3))
      have gg3 := gg.trans k3
      clear gg p0 p1 k3
      have gg := gg3
      clear gg3
      have p0 := gg.all HP0.out
      have p1 := gg.all HP1.out
      have HO3 := Lib.hid o3
      clear o3
      have hlen : (L.take k ++ [(pa, pb)]).length + (L.drop k).length = k + 1 := by rw [List.length_append, HLK.out, List.length_drop, HN.out]; simp
      have HLN := Lib.hid hlen
      clear hlen
      refine wp_region_noPanic ?_
      refine wp_region_held_drew (S := (fun w' => w'.cell? ⟨w.heap.size, 0, none⟩ = some (.int .u32 pa) ∧ w'.cell? ⟨w.heap.size, 1, none⟩ = some (.int .u32 pb) ∧ Kep W1.heap.size W1 w')) (by kernel_rfl) (⟨by rw [World.cell?_drew]; exact p0, by rw [World.cell?_drew]; exact p1, kep_drew gg⟩) (fun hH => ?_)
      refine wpAnyH_take (i := 0) (oi := { dst := some 32, op := Op.move (Operand.tmp 6), type := _, pos := _, after := _, guard := none }) (v := ?_) rfl (by kernel_rfl) (by kernel_rfl) (by kernel_rfl) (fun _ _ _ h => h) (Or.inl ⟨by rfl, ?_⟩) hH ?_
      rotate_left
      · (intro w hSw; (try dsimp only at hSw); go_simp; (try with_reducible rfl))
      try simp only [Act.put, List.setIfInBounds_toArray, List.set_cons_zero, List.set_cons_succ]
      refine wpAnyH_take (i := 1) (oi := { dst := some 33, op := Op.move (Operand.tmp 0), type := _, pos := _, after := _, guard := none }) (v := ?_) rfl (by kernel_rfl) (by kernel_rfl) (by kernel_rfl) (fun _ _ _ h => h) (Or.inl ⟨by rfl, ?_⟩) hH ?_
      rotate_left
      · (intro w hSw; (try dsimp only at hSw); go_simp; (try with_reducible rfl))
      try simp only [Act.put, List.setIfInBounds_toArray, List.set_cons_zero, List.set_cons_succ]
      refine wpAnyH_take (i := 2) (oi := { dst := some 34, op := Op.call { callee := Callee.builtin Builtin.len, args := #[Operand.tmp 33], argTypes := #[35] }, type := _, pos := _, after := _, guard := none }) (v := ?_) rfl (by kernel_rfl) (by kernel_rfl) (by kernel_rfl) (fun _ _ _ h => h) (Or.inl ⟨by rfl, ?_⟩) hH ?_
      rotate_left
      · (intro w hSw; (try dsimp only at hSw); go_simp; (try with_reducible rfl))
      try simp only [Act.put, List.setIfInBounds_toArray, List.set_cons_zero, List.set_cons_succ]
      refine wpAnyH_take (i := 3) (oi := { dst := some 35, op := Op.binOp BinOp.lss 3 (Operand.tmp 32) (Operand.tmp 34) 3, type := _, pos := _, after := _, guard := none }) (v := ?_) rfl (by kernel_rfl) (by kernel_rfl) (by kernel_rfl) (fun _ _ _ h => h) (Or.inl ⟨by rfl, ?_⟩) hH ?_
      rotate_left
      · (intro w hSw; (try dsimp only at hSw); go_simp; (try with_reducible rfl))
      try simp only [Act.put, List.setIfInBounds_toArray, List.set_cons_zero, List.set_cons_succ]
      refine wpAnyH_take (i := 4) (oi := { dst := some 36, op := Op.move (Operand.tmp 35), type := _, pos := _, after := _, guard := none }) (v := ?_) rfl (by kernel_rfl) (by kernel_rfl) (by kernel_rfl) (fun _ _ _ h => h) (Or.inl ⟨by rfl, ?_⟩) hH ?_
      rotate_left
      · (intro w hSw; (try dsimp only at hSw); go_simp; (try with_reducible rfl))
      try simp only [Act.put, List.setIfInBounds_toArray, List.set_cons_zero, List.set_cons_succ]
      refine wpAnyH_take (i := 5) (oi := { dst := some 37, op := Op.move (Operand.tmp 0), type := _, pos := _, after := _, guard := some (4, true) }) (v := undef) rfl (by kernel_rfl) (by kernel_rfl) (by kernel_rfl) (fun _ _ _ h => h) (Or.inr ⟨by rfl, rfl⟩) hH ?_
      try simp only [Act.put, List.setIfInBounds_toArray, List.set_cons_zero, List.set_cons_succ]
      refine wpAnyH_take (i := 6) (oi := { dst := some 38, op := Op.move (Operand.tmp 6), type := _, pos := _, after := _, guard := some (4, true) }) (v := undef) rfl (by kernel_rfl) (by kernel_rfl) (by kernel_rfl) (fun _ _ _ h => h) (Or.inr ⟨by rfl, rfl⟩) hH ?_
      try simp only [Act.put, List.setIfInBounds_toArray, List.set_cons_zero, List.set_cons_succ]
      refine wpAnyH_take (i := 7) (oi := { dst := some 39, op := Op.indexAddr 35 (Operand.tmp 37) (Operand.tmp 38), type := _, pos := _, after := _, guard := some (4, true) }) (v := undef) rfl (by kernel_rfl) (by kernel_rfl) (by kernel_rfl) (fun _ _ _ h => h) (Or.inr ⟨by rfl, rfl⟩) hH ?_
      try simp only [Act.put, List.setIfInBounds_toArray, List.set_cons_zero, List.set_cons_succ]
      refine wpAnyH_take (i := 8) (oi := { dst := some 40, op := Op.load 44 (Operand.tmp 39), type := _, pos := _, after := _, guard := some (4, true) }) (v := undef) rfl (by kernel_rfl) (by kernel_rfl) (by kernel_rfl) (fun _ _ _ h => h) (Or.inr ⟨by rfl, rfl⟩) hH ?_
      try simp only [Act.put, List.setIfInBounds_toArray, List.set_cons_zero, List.set_cons_succ]
      refine wpAnyH_take (i := 9) (oi := { dst := some 41, op := Op.load 44 (Operand.tmp 3), type := _, pos := _, after := _, guard := some (4, true) }) (v := undef) rfl (by kernel_rfl) (by kernel_rfl) (by kernel_rfl) (fun _ _ _ h => h) (Or.inr ⟨by rfl, rfl⟩) hH ?_
      try simp only [Act.put, List.setIfInBounds_toArray, List.set_cons_zero, List.set_cons_succ]
      refine wpAnyH_take (i := 10) (oi := { dst := some 42, op := Op.binOp BinOp.eql 44 (Operand.tmp 40) (Operand.tmp 41) 44, type := _, pos := _, after := _, guard := some (4, true) }) (v := undef) rfl (by kernel_rfl) (by kernel_rfl) (by kernel_rfl) (fun _ _ _ h => h) (Or.inr ⟨by rfl, rfl⟩) hH ?_
      try simp only [Act.put, List.setIfInBounds_toArray, List.set_cons_zero, List.set_cons_succ]
      refine wpAnyH_take (i := 11) (oi := { dst := some 43, op := Op.pick (Operand.tmp 36) (Operand.tmp 42) (Operand.const (Value.bool false)), type := _, pos := _, after := _, guard := none }) (v := ?_) rfl (by kernel_rfl) (by kernel_rfl) (by kernel_rfl) (fun _ _ _ h => h) (Or.inl ⟨by rfl, ?_⟩) hH ?_
      rotate_left
      · (intro w hSw; (try dsimp only at hSw); go_simp; (try with_reducible rfl))
      try simp only [Act.put, List.setIfInBounds_toArray, List.set_cons_zero, List.set_cons_succ]
      refine wpAnyH_done (by kernel_rfl) ?_ _
      refine NoPanic.normal ?_
      clear p0 p1 gg
      obtain ⟨p0, p1, gg⟩ := hH
      have hd : L.drop k = [] := List.drop_of_length_le (by rw [HN.out]; omega)
      have HDR := Lib.hid hd
      clear hd
      cases base
      all_goals (by_cases hcp : cap = k)
      all_goals (try (have hcp2 : cap - k ≠ 0 := by omega))
      all_goals (go_wp2_with (first
        | (at_builtin; refine wpList_appAll pv 2 pv_len pv_one rfl _ _ 35 rfl 44 _ 8 Tryd.underlying35 info_pair rfl (by decide) W1.heap.size _ _ _ (L.take k ++ [(pa, pb)]) (L.drop k) rfl (World.ownsRow.drew HO3.out) rfl (sq_zero HDR.out (by omega)) (by rw [HLN.out]; unfold maxLen; omega) (by rw [HLN.out]; omega) gg.size ?_; intro v5 w5 o5 k5)))
      all_goals go_ret
      all_goals exact ⟨_, rfl, ⟨by rw [putS_eq HT.out (fun x hx => by rw [List.getElem?_eq_none (by rw [HN.out]; omega)] at hx; cases hx), HDR.out]; exact own_sq pv_len (by rw [HDR.out] at o5; simpa [dropOne] using o5), own_rmy o5⟩, K0.out.trans ((gg.trans k5).mono K0.out.size)⟩
end Go.Proofs.YtnmnbogjnjbopaaDoor
