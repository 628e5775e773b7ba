/-
  Package grid: the reference's At.
-/
import Derived.Test.YtnmnbogjnjbopaaDoorGridRef5
import Derived.Deep.DeepCutAuto
import Derived.Deep.QuietTactic
import Derived.BigQuiet
namespace Go.Proofs.YtnmnbogjnjbopaaDoor
open Go.RowKit Go.Lib

theorem putS_eqG {α : Type} [DecidableEq α] {lt : α → α → Bool} {L : List α} {p : α} {k : Nat} (h1 : ∀ x ∈ L.take k, lt x p = true) (h2 : ∀ x, L[k]? = some x → lt x p = false) : putS lt L p = L.take k ++ p :: dropOne p (L.drop k) := by
  obtain ⟨e1, e2⟩ := take_while (t := fun x => lt x p) h1 h2
  unfold putS
  rw [e1, e2]
theorem drop_isG {α : Type} [DecidableEq α] {L : List α} {a c : α} {k : Nat} (h : L[k]? = some a) (e : a = c) : dropOne c (L.drop k) = L.drop (k + 1) := by
  obtain ⟨hk, q⟩ := List.getElem?_eq_some_iff.1 h
  rw [List.drop_eq_getElem_cons hk, q, dropOne_cons, if_pos e]
theorem drop_notG {α : Type} [DecidableEq α] {L : List α} {a c : α} {k : Nat} (h : L[k]? = some a) (e : ¬ a = c) : dropOne c (L.drop k) = L.drop k := by
  obtain ⟨hk, q⟩ := List.getElem?_eq_some_iff.1 h
  rw [List.drop_eq_getElem_cons hk, q, dropOne_cons, if_neg e]
theorem info_key : (Tryd.prog.info? 42).map (fun i => (i.zero, i.size, i.bytes)) = some (some (.int .u32 0), 1, 4) := by kernel_rfl
set_option maxRecDepth 100000 in
set_option maxHeartbeats 8000000 in
theorem rat (L : List Ent) (hm : L.length ≤ 40) (HF : Hid (∀ x ∈ L, FitE x ∧ (cellsB x.a x.b x.c x.d).length ≤ 1000000)) (px py : Int) (hx : In3 px) (hy : In3 py) (v : Value) (w : World) (h : Sq ev 5 w v L) :
    Calls Tryd.prog 22 #[v, .agg #[.int .i32 px, .int .i32 py]] w fun e w' => ∃ v', e = .returned v' ∧ (Sq kv 1 w' v' (atL L (bktN (colN px) (colN py))) ∧ Rmy v') ∧ Kep w.heap.size w w' := by
  obtain ⟨base, cap, rfl, H⟩ := h
  have HC := Lib.hid H
  clear H
  have R1 := Lib.hid (fun w => kep_calls (rce px py _ _ (Lib.hid (rcl hx)) (Lib.hid (rcl hy)) w))
  have R2 := Lib.hid (fun w => kep_calls (rbk (colN px) (colN py) w))
  generalize bktN (colN px) (colN py) = N at R2 ⊢
  generalize hl : L.length = len at *
  have HN := Lib.hid hl
  clear hl hx hy
  go_enter Tryd.func22, Tryd.ntmps22
  go_wp2_with (first
    | ((with_reducible refine (R1.out _).mono ?_); rintro e w0 ⟨rfl, g0⟩)
    | ((with_reducible refine (R2.out _).mono ?_); rintro e w1 ⟨rfl, g1⟩))
  have K0 := Lib.hid (kep_next (kep_next (kep_more (Kep.refl _ w) _) g0) g1)
  clear g0 g1
  go_loopw [5, 7, 8, 9] (fun out i _ _ wr => ∃ a : Nat, a ≤ len ∧ i = .int .i64 a ∧ Hid (Sq kv 1 wr out (accA L N a) ∧ Rmy out ∧ Kep w1.heap.size w1 wr)) (fun _ i _ _ _ => len - (RowKit.intOf i).toNat)
  case atStart => exact ⟨0, by omega, rfl, Lib.hid ⟨Sq.nil, fun b m c e => by injection e with _ e1 e2; omega, Kep.refl _ _⟩⟩
  case round =>
    obtain ⟨a, ha, rfl, HP⟩ := hrel
    by_cases hlt : a < len
    · have hb : L[a]? = some (L[a]'(by rw [HN.out]; exact hlt)) := List.getElem?_eq_getElem _
      generalize L[a]'(by rw [HN.out]; exact hlt) = x at hb
      obtain ⟨gl, off, rfl, q⟩ := HC.out a x hb
      obtain ⟨hf, hcl⟩ := HF.out x (List.mem_of_getElem? hb)
      have A1 := Lib.hid (rbs_any hf hcl)
      have hbl : (bksE x).length ≤ 1000000 := by unfold bksE bksB; rw [List.length_map]; exact hcl
      obtain ⟨z, hz⟩ : ∃ z, (bksE x).contains N = z := ⟨_, rfl⟩
      have HS : Hid (∀ v w, Sq iv 1 w v (bksE x) → Calls Tryd.prog 46 #[v, .int .i64 N] w fun e w' => e = .returned (.bool z) ∧ Kep w.heap.size w w') := Lib.hid (fun v w h => (rhs (bksE x) N (by omega) v w h).mono fun _ _ h => ⟨by rw [h.1, hz], by rw [← h.2]; exact Kep.refl _ _⟩)
      obtain ⟨xk, hxk⟩ : ∃ xk, xk = x.k := ⟨_, rfl⟩
      have hw1 : Kep w.heap.size w wr := kep_next K0.out HP.out.2.2
      have HX0 : Hid (wr.cell? ⟨gl, off + a * 5, none⟩ = some (.int .u32 xk)) := Lib.hid (by rw [hxk]; exact hw1.all (q 0 _ rfl))
      have t1 : wr.cell? ⟨gl, off + a * 5 + 1, none⟩ = some (.int .i32 x.a) := hw1.all (q 1 _ rfl)
      have t2 : wr.cell? ⟨gl, off + a * 5 + 2, none⟩ = some (.int .i32 x.b) := hw1.all (q 2 _ rfl)
      have t3 : wr.cell? ⟨gl, off + a * 5 + 3, none⟩ = some (.int .i32 x.c) := hw1.all (q 3 _ rfl)
      have t4 : wr.cell? ⟨gl, off + a * 5 + 4, none⟩ = some (.int .i32 x.d) := hw1.all (q 4 _ rfl)
      have HB := Lib.hid hb
      have HZ := Lib.hid hz
      have HXK := Lib.hid hxk
      have HLE := Lib.hid (accA_len L N a (by rw [HN.out]; omega))
      clear hb q hf hcl hz hxk hw1 hbl
      cases z
      · go_wp2_with (first
          | ((with_reducible refine (A1.out _).mono ?_); rintro e w2 ⟨l2, rfl, q2, g2⟩)
          | ((with_reducible refine (HS.out _ _ q2.1).mono ?_); rintro e w3 ⟨rfl, g3⟩))
        go_roundw
        case rel => exact ⟨a + 1, by omega, by go_num, Lib.hid (by
            rw [accA_succ HB.out]
            unfold stepA
            rw [HZ.out]
            exact ⟨(HP.out.1.kep g2).kep g3, HP.out.2.1, kep_next (kep_next HP.out.2.2 g2) g3⟩)⟩
        case measure => simp [RowKit.intOf]; omega
      · go_wp2_with (first
          | ((with_reducible refine (A1.out _).mono ?_); rintro e w02 ⟨l2, rfl, q2, g2⟩)
          | ((with_reducible refine (HS.out _ _ q2.1).mono ?_); rintro e w2 ⟨rfl, g3⟩))
        have HK2 := Lib.hid (kep_next (kep_next HP.out.2.2 g2) g3)
        have HX2 := Lib.hid (g3.all (g2.all HX0.out))
        obtain ⟨O, hO⟩ : ∃ O, O = accA L N a := ⟨_, rfl⟩
        have hsq := (HP.out.1.kep g2).kep g3
        rw [← hO] at hsq HLE
        have hrm := HP.out.2.1
        have HO := Lib.hid hO
        clear hO HP q2 g2 g3 t1 t2 t3 t4 HX0
        obtain ⟨ob, oc, he, hq⟩ := hsq
        subst he
        have hroom : O.length ≤ oc := hrm _ _ _ rfl
        have HQ := Lib.hid hq
        clear hq hrm
        obtain ⟨on, hon⟩ : ∃ on, O.length = on := ⟨_, rfl⟩
        rw [hon] at hroom HLE ⊢
        have hon40 : on ≤ 40 := Nat.le_trans HLE.out (by omega)
        have HON := Lib.hid hon
        clear hon HLE
        go_loopw [8, 9] (fun nx i wr => ∃ k : Nat, k ≤ on ∧ i = .int .i64 k ∧ Hid (∀ y ∈ O.take k, kless y xk = true) ∧ Hid (wr.ownsRow w2.heap.size 42 1 nx (O.take k).length ((O.take k).flatMap kv) ∧ Kep w2.heap.size w2 wr)) (fun _ i _ => on - (RowKit.intOf i).toNat)
        case atStart => exact ⟨0, by omega, rfl, Lib.hid (by simp), Lib.hid ⟨World.ownsRow_nil _ _ _ _, Kep.refl _ _⟩⟩
        case round =>
          obtain ⟨k, hk, rfl, HT, HR⟩ := hrel
          have gg := HR.out.2
          have HOW := Lib.hid HR.out.1
          have hlk : (O.take k).length = k := by rw [List.length_take]; have := HON.out; omega
          have HLK := Lib.hid hlk
          clear HR hlk
          have x0 := gg.all HX2.out
          by_cases hlt2 : k < on
          · have hbk : O[k]? = some (O[k]'(by rw [HON.out]; exact hlt2)) := List.getElem?_eq_getElem _
            generalize O[k]'(by rw [HON.out]; exact hlt2) = ty at hbk
            obtain ⟨go, oo, rfl, qo⟩ := HQ.out k ty hbk
            have HY2 : Hid (w2.cell? ⟨go, oo + k, none⟩ = some (.int .u32 ty)) := Lib.hid (by have := qo 0 _ rfl; rw [Nat.mul_one] at this; exact this)
            have y0 := gg.all HY2.out
            have HBK := Lib.hid hbk
            clear hbk qo
            obtain ⟨z, hz⟩ : ∃ z, decide (ty < xk) = z := ⟨_, rfl⟩
            go_wp2_with fail
            refine wp_region_noPanic ?_
            refine wp_region_held_drew (S := (fun w' => w'.cell? ⟨gl, off + a * 5, none⟩ = some (.int .u32 xk) ∧ w'.cell? ⟨go, oo + k, none⟩ = some (.int .u32 ty) ∧ Kep w2.heap.size w2 w')) (by kernel_rfl) (⟨by rw [World.cell?_drew]; exact x0, by rw [World.cell?_drew]; exact y0, kep_drew gg⟩) (fun hH => ?_)
            refine wpAnyH_take (i := 0) (oi := { dst := some 28, op := Op.move (Operand.tmp 9), type := _, pos := _, after := _, guard := none }) (v := ?_) rfl (by kernel_rfl) (by kernel_rfl) (by kernel_rfl) (fun _ _ _ h => h) (Or.inl ⟨by rfl, ?_⟩) hH ?_
            rotate_left
            · (intro w hSw; (try dsimp only at hSw); go_simp; (try with_reducible rfl))
            try simp only [Act.put, List.setIfInBounds_toArray, List.set_cons_zero, List.set_cons_succ]
            refine wpAnyH_take (i := 1) (oi := { dst := some 29, op := Op.move (Operand.tmp 5), type := _, pos := _, after := _, guard := none }) (v := ?_) rfl (by kernel_rfl) (by kernel_rfl) (by kernel_rfl) (fun _ _ _ h => h) (Or.inl ⟨by rfl, ?_⟩) hH ?_
            rotate_left
            · (intro w hSw; (try dsimp only at hSw); go_simp; (try with_reducible rfl))
            try simp only [Act.put, List.setIfInBounds_toArray, List.set_cons_zero, List.set_cons_succ]
            refine wpAnyH_take (i := 2) (oi := { dst := some 30, op := Op.call { callee := Callee.builtin Builtin.len, args := #[Operand.tmp 29], argTypes := #[27] }, type := _, pos := _, after := _, guard := none }) (v := ?_) rfl (by kernel_rfl) (by kernel_rfl) (by kernel_rfl) (fun _ _ _ h => h) (Or.inl ⟨by rfl, ?_⟩) hH ?_
            rotate_left
            · (intro w hSw; (try dsimp only at hSw); go_simp; (try with_reducible rfl))
            try simp only [Act.put, List.setIfInBounds_toArray, List.set_cons_zero, List.set_cons_succ]
            refine wpAnyH_take (i := 3) (oi := { dst := some 31, op := Op.binOp BinOp.lss 3 (Operand.tmp 28) (Operand.tmp 30) 3, type := _, pos := _, after := _, guard := none }) (v := ?_) rfl (by kernel_rfl) (by kernel_rfl) (by kernel_rfl) (fun _ _ _ h => h) (Or.inl ⟨by rfl, ?_⟩) hH ?_
            rotate_left
            · (intro w hSw; (try dsimp only at hSw); go_simp; (try with_reducible rfl))
            try simp only [Act.put, List.setIfInBounds_toArray, List.set_cons_zero, List.set_cons_succ]
            refine wpAnyH_take (i := 4) (oi := { dst := some 32, op := Op.move (Operand.tmp 31), type := _, pos := _, after := _, guard := none }) (v := ?_) rfl (by kernel_rfl) (by kernel_rfl) (by kernel_rfl) (fun _ _ _ h => h) (Or.inl ⟨by rfl, ?_⟩) hH ?_
            rotate_left
            · (intro w hSw; (try dsimp only at hSw); go_simp; (try with_reducible rfl))
            try simp only [Act.put, List.setIfInBounds_toArray, List.set_cons_zero, List.set_cons_succ]
            refine wpAnyH_take (i := 5) (oi := { dst := some 33, op := Op.move (Operand.tmp 5), type := _, pos := _, after := _, guard := some (4, true) }) (v := ?_) rfl (by kernel_rfl) (by kernel_rfl) (by kernel_rfl) (fun _ _ _ h => h) (Or.inl ⟨by rfl, ?_⟩) hH ?_
            rotate_left
            · (intro w hSw; (try dsimp only at hSw); go_simp; (try with_reducible rfl))
            try simp only [Act.put, List.setIfInBounds_toArray, List.set_cons_zero, List.set_cons_succ]
            refine wpAnyH_take (i := 6) (oi := { dst := some 34, op := Op.move (Operand.tmp 9), type := _, pos := _, after := _, guard := some (4, true) }) (v := ?_) rfl (by kernel_rfl) (by kernel_rfl) (by kernel_rfl) (fun _ _ _ h => h) (Or.inl ⟨by rfl, ?_⟩) hH ?_
            rotate_left
            · (intro w hSw; (try dsimp only at hSw); go_simp; (try with_reducible rfl))
            try simp only [Act.put, List.setIfInBounds_toArray, List.set_cons_zero, List.set_cons_succ]
            refine wpAnyH_take (i := 7) (oi := { dst := some 35, op := Op.indexAddr 27 (Operand.tmp 33) (Operand.tmp 34), type := _, pos := _, after := _, guard := some (4, true) }) (v := ?_) rfl (by kernel_rfl) (by kernel_rfl) (by kernel_rfl) (fun _ _ _ h => h) (Or.inl ⟨by rfl, ?_⟩) hH ?_
            rotate_left
            · (intro w hSw; (try dsimp only at hSw); go_simp; (try with_reducible rfl))
            try simp only [Act.put, List.setIfInBounds_toArray, List.set_cons_zero, List.set_cons_succ]
            refine wpAnyH_take (i := 8) (oi := { dst := some 36, op := Op.load 42 (Operand.tmp 35), type := _, pos := _, after := _, guard := some (4, true) }) (v := ?_) rfl (by kernel_rfl) (by kernel_rfl) (by kernel_rfl) (fun _ _ _ h => h) (Or.inl ⟨by rfl, ?_⟩) hH ?_
            rotate_left
            · (intro w hSw; (try dsimp only at hSw); go_simp; (try with_reducible rfl))
            try simp only [Act.put, List.setIfInBounds_toArray, List.set_cons_zero, List.set_cons_succ]
            refine wpAnyH_take (i := 9) (oi := { dst := some 37, op := Op.move (Operand.tmp 0), type := _, pos := _, after := _, guard := some (4, true) }) (v := ?_) rfl (by kernel_rfl) (by kernel_rfl) (by kernel_rfl) (fun _ _ _ h => h) (Or.inl ⟨by rfl, ?_⟩) hH ?_
            rotate_left
            · (intro w hSw; (try dsimp only at hSw); go_simp; (try with_reducible rfl))
            try simp only [Act.put, List.setIfInBounds_toArray, List.set_cons_zero, List.set_cons_succ]
            refine wpAnyH_take (i := 10) (oi := { dst := some 38, op := Op.move (Operand.tmp 7), type := _, pos := _, after := _, guard := some (4, true) }) (v := ?_) rfl (by kernel_rfl) (by kernel_rfl) (by kernel_rfl) (fun _ _ _ h => h) (Or.inl ⟨by rfl, ?_⟩) hH ?_
            rotate_left
            · (intro w hSw; (try dsimp only at hSw); go_simp; (try with_reducible rfl))
            try simp only [Act.put, List.setIfInBounds_toArray, List.set_cons_zero, List.set_cons_succ]
            refine wpAnyH_take (i := 11) (oi := { dst := some 39, op := Op.indexAddr 22 (Operand.tmp 37) (Operand.tmp 38), type := _, pos := _, after := _, guard := some (4, true) }) (v := ?_) rfl (by kernel_rfl) (by kernel_rfl) (by kernel_rfl) (fun _ _ _ h => h) (Or.inl ⟨by rfl, ?_⟩) hH ?_
            rotate_left
            · (intro w hSw; (try dsimp only at hSw); go_simp; (try with_reducible rfl))
            try simp only [Act.put, List.setIfInBounds_toArray, List.set_cons_zero, List.set_cons_succ]
            refine wpAnyH_take (i := 12) (oi := { dst := some 40, op := Op.fieldAddr 49 (Operand.tmp 39) 0, type := _, pos := _, after := _, guard := some (4, true) }) (v := ?_) rfl (by kernel_rfl) (by kernel_rfl) (by kernel_rfl) (fun _ _ _ h => h) (Or.inl ⟨by rfl, ?_⟩) hH ?_
            rotate_left
            · (intro w hSw; (try dsimp only at hSw); go_simp; (try with_reducible rfl))
            try simp only [Act.put, List.setIfInBounds_toArray, List.set_cons_zero, List.set_cons_succ]
            refine wpAnyH_take (i := 13) (oi := { dst := some 41, op := Op.load 42 (Operand.tmp 40), type := _, pos := _, after := _, guard := some (4, true) }) (v := ?_) rfl (by kernel_rfl) (by kernel_rfl) (by kernel_rfl) (fun _ _ _ h => h) (Or.inl ⟨by rfl, ?_⟩) hH ?_
            rotate_left
            · (intro w hSw; (try dsimp only at hSw); go_simp; (try with_reducible rfl))
            try simp only [Act.put, List.setIfInBounds_toArray, List.set_cons_zero, List.set_cons_succ]
            refine wpAnyH_take (i := 14) (oi := { dst := some 42, op := Op.binOp BinOp.lss 42 (Operand.tmp 36) (Operand.tmp 41) 42, type := _, pos := _, after := _, guard := some (4, true) }) (v := ?_) rfl (by kernel_rfl) (by kernel_rfl) (by kernel_rfl) (fun _ _ _ h => h) (Or.inl ⟨by rfl, ?_⟩) hH ?_
            rotate_left
            · (intro w hSw; (try dsimp only at hSw); go_simp; (try with_reducible rfl))
            try simp only [Act.put, List.setIfInBounds_toArray, List.set_cons_zero, List.set_cons_succ]
            refine wpAnyH_take (i := 15) (oi := { dst := some 43, op := Op.pick (Operand.tmp 32) (Operand.tmp 42) (Operand.const (Value.bool false)), type := _, pos := _, after := _, guard := none }) (v := ?_) rfl (by kernel_rfl) (by kernel_rfl) (by kernel_rfl) (fun _ _ _ h => h) (Or.inl ⟨by rfl, ?_⟩) hH ?_
            rotate_left
            · (intro w hSw; (try dsimp only at hSw); go_simp; (try with_reducible rfl))
            try simp only [Act.put, List.setIfInBounds_toArray, List.set_cons_zero, List.set_cons_succ]
            refine wpAnyH_done (by kernel_rfl) ?_ _
            refine NoPanic.normal ?_
            clear x0 y0 gg
            obtain ⟨x0, y0, gg⟩ := hH
            have HZ1 : Hid (kless ty xk = z) := Lib.hid hz
            clear hz
            cases z
            · go_wp2_with (first
                | (at_builtin; refine wpList_app kv 1 kv_len kv_one rfl _ _ 27 rfl 42 _ 4 Tryd.underlying27 info_key rfl (by decide) w2.heap.size _ _ _ xk rfl (World.ownsRow.drew HOW.out) _ (by first | rfl | simp) rfl _ rfl (by rw [HLK.out]; unfold maxLen; omega) (by rw [HLK.out]; omega) gg.size ?_; intro v3 w3 o3 k3))
              have gg3 := gg.trans k3
              clear gg x0 y0 k3
              have gg := gg3
              clear gg3
              have x0 := gg.all HX2.out
              have y0 := gg.all HY2.out
              have HO3 := Lib.hid o3
              clear o3
              by_cases hyx : ty = xk
              · have hq : (ty == xk) = true := beq_iff_eq.2 hyx
                refine wp_region_noPanic ?_
                refine wp_region_held_drew (S := (fun w' => w'.cell? ⟨gl, off + a * 5, none⟩ = some (.int .u32 xk) ∧ w'.cell? ⟨go, oo + k, none⟩ = some (.int .u32 ty) ∧ Kep w2.heap.size w2 w')) (by kernel_rfl) (⟨by rw [World.cell?_drew]; exact x0, by rw [World.cell?_drew]; exact y0, kep_drew gg⟩) (fun hH => ?_)
                refine wpAnyH_take (i := 0) (oi := { dst := some 61, op := Op.move (Operand.tmp 9), type := _, pos := _, after := _, guard := none }) (v := ?_) rfl (by kernel_rfl) (by kernel_rfl) (by kernel_rfl) (fun _ _ _ h => h) (Or.inl ⟨by rfl, ?_⟩) hH ?_
                rotate_left
                · (intro w hSw; (try dsimp only at hSw); go_simp; (try with_reducible rfl))
                try simp only [Act.put, List.setIfInBounds_toArray, List.set_cons_zero, List.set_cons_succ]
                refine wpAnyH_take (i := 1) (oi := { dst := some 62, op := Op.move (Operand.tmp 5), type := _, pos := _, after := _, guard := none }) (v := ?_) rfl (by kernel_rfl) (by kernel_rfl) (by kernel_rfl) (fun _ _ _ h => h) (Or.inl ⟨by rfl, ?_⟩) hH ?_
                rotate_left
                · (intro w hSw; (try dsimp only at hSw); go_simp; (try with_reducible rfl))
                try simp only [Act.put, List.setIfInBounds_toArray, List.set_cons_zero, List.set_cons_succ]
                refine wpAnyH_take (i := 2) (oi := { dst := some 63, op := Op.call { callee := Callee.builtin Builtin.len, args := #[Operand.tmp 62], argTypes := #[27] }, type := _, pos := _, after := _, guard := none }) (v := ?_) rfl (by kernel_rfl) (by kernel_rfl) (by kernel_rfl) (fun _ _ _ h => h) (Or.inl ⟨by rfl, ?_⟩) hH ?_
                rotate_left
                · (intro w hSw; (try dsimp only at hSw); go_simp; (try with_reducible rfl))
                try simp only [Act.put, List.setIfInBounds_toArray, List.set_cons_zero, List.set_cons_succ]
                refine wpAnyH_take (i := 3) (oi := { dst := some 64, op := Op.binOp BinOp.lss 3 (Operand.tmp 61) (Operand.tmp 63) 3, type := _, pos := _, after := _, guard := none }) (v := ?_) rfl (by kernel_rfl) (by kernel_rfl) (by kernel_rfl) (fun _ _ _ h => h) (Or.inl ⟨by rfl, ?_⟩) hH ?_
                rotate_left
                · (intro w hSw; (try dsimp only at hSw); go_simp; (try with_reducible rfl))
                try simp only [Act.put, List.setIfInBounds_toArray, List.set_cons_zero, List.set_cons_succ]
                refine wpAnyH_take (i := 4) (oi := { dst := some 65, op := Op.move (Operand.tmp 64), type := _, pos := _, after := _, guard := none }) (v := ?_) rfl (by kernel_rfl) (by kernel_rfl) (by kernel_rfl) (fun _ _ _ h => h) (Or.inl ⟨by rfl, ?_⟩) hH ?_
                rotate_left
                · (intro w hSw; (try dsimp only at hSw); go_simp; (try with_reducible rfl))
                try simp only [Act.put, List.setIfInBounds_toArray, List.set_cons_zero, List.set_cons_succ]
                refine wpAnyH_take (i := 5) (oi := { dst := some 66, op := Op.move (Operand.tmp 5), type := _, pos := _, after := _, guard := some (4, true) }) (v := ?_) rfl (by kernel_rfl) (by kernel_rfl) (by kernel_rfl) (fun _ _ _ h => h) (Or.inl ⟨by rfl, ?_⟩) hH ?_
                rotate_left
                · (intro w hSw; (try dsimp only at hSw); go_simp; (try with_reducible rfl))
                try simp only [Act.put, List.setIfInBounds_toArray, List.set_cons_zero, List.set_cons_succ]
                refine wpAnyH_take (i := 6) (oi := { dst := some 67, op := Op.move (Operand.tmp 9), type := _, pos := _, after := _, guard := some (4, true) }) (v := ?_) rfl (by kernel_rfl) (by kernel_rfl) (by kernel_rfl) (fun _ _ _ h => h) (Or.inl ⟨by rfl, ?_⟩) hH ?_
                rotate_left
                · (intro w hSw; (try dsimp only at hSw); go_simp; (try with_reducible rfl))
                try simp only [Act.put, List.setIfInBounds_toArray, List.set_cons_zero, List.set_cons_succ]
                refine wpAnyH_take (i := 7) (oi := { dst := some 68, op := Op.indexAddr 27 (Operand.tmp 66) (Operand.tmp 67), type := _, pos := _, after := _, guard := some (4, true) }) (v := ?_) rfl (by kernel_rfl) (by kernel_rfl) (by kernel_rfl) (fun _ _ _ h => h) (Or.inl ⟨by rfl, ?_⟩) hH ?_
                rotate_left
                · (intro w hSw; (try dsimp only at hSw); go_simp; (try with_reducible rfl))
                try simp only [Act.put, List.setIfInBounds_toArray, List.set_cons_zero, List.set_cons_succ]
                refine wpAnyH_take (i := 8) (oi := { dst := some 69, op := Op.load 42 (Operand.tmp 68), type := _, pos := _, after := _, guard := some (4, true) }) (v := ?_) rfl (by kernel_rfl) (by kernel_rfl) (by kernel_rfl) (fun _ _ _ h => h) (Or.inl ⟨by rfl, ?_⟩) hH ?_
                rotate_left
                · (intro w hSw; (try dsimp only at hSw); go_simp; (try with_reducible rfl))
                try simp only [Act.put, List.setIfInBounds_toArray, List.set_cons_zero, List.set_cons_succ]
                refine wpAnyH_take (i := 9) (oi := { dst := some 70, op := Op.move (Operand.tmp 0), type := _, pos := _, after := _, guard := some (4, true) }) (v := ?_) rfl (by kernel_rfl) (by kernel_rfl) (by kernel_rfl) (fun _ _ _ h => h) (Or.inl ⟨by rfl, ?_⟩) hH ?_
                rotate_left
                · (intro w hSw; (try dsimp only at hSw); go_simp; (try with_reducible rfl))
                try simp only [Act.put, List.setIfInBounds_toArray, List.set_cons_zero, List.set_cons_succ]
                refine wpAnyH_take (i := 10) (oi := { dst := some 71, op := Op.move (Operand.tmp 7), type := _, pos := _, after := _, guard := some (4, true) }) (v := ?_) rfl (by kernel_rfl) (by kernel_rfl) (by kernel_rfl) (fun _ _ _ h => h) (Or.inl ⟨by rfl, ?_⟩) hH ?_
                rotate_left
                · (intro w hSw; (try dsimp only at hSw); go_simp; (try with_reducible rfl))
                try simp only [Act.put, List.setIfInBounds_toArray, List.set_cons_zero, List.set_cons_succ]
                refine wpAnyH_take (i := 11) (oi := { dst := some 72, op := Op.indexAddr 22 (Operand.tmp 70) (Operand.tmp 71), type := _, pos := _, after := _, guard := some (4, true) }) (v := ?_) rfl (by kernel_rfl) (by kernel_rfl) (by kernel_rfl) (fun _ _ _ h => h) (Or.inl ⟨by rfl, ?_⟩) hH ?_
                rotate_left
                · (intro w hSw; (try dsimp only at hSw); go_simp; (try with_reducible rfl))
                try simp only [Act.put, List.setIfInBounds_toArray, List.set_cons_zero, List.set_cons_succ]
                refine wpAnyH_take (i := 12) (oi := { dst := some 73, op := Op.fieldAddr 49 (Operand.tmp 72) 0, type := _, pos := _, after := _, guard := some (4, true) }) (v := ?_) rfl (by kernel_rfl) (by kernel_rfl) (by kernel_rfl) (fun _ _ _ h => h) (Or.inl ⟨by rfl, ?_⟩) hH ?_
                rotate_left
                · (intro w hSw; (try dsimp only at hSw); go_simp; (try with_reducible rfl))
                try simp only [Act.put, List.setIfInBounds_toArray, List.set_cons_zero, List.set_cons_succ]
                refine wpAnyH_take (i := 13) (oi := { dst := some 74, op := Op.load 42 (Operand.tmp 73), type := _, pos := _, after := _, guard := some (4, true) }) (v := ?_) rfl (by kernel_rfl) (by kernel_rfl) (by kernel_rfl) (fun _ _ _ h => h) (Or.inl ⟨by rfl, ?_⟩) hH ?_
                rotate_left
                · (intro w hSw; (try dsimp only at hSw); go_simp; (try with_reducible rfl))
                try simp only [Act.put, List.setIfInBounds_toArray, List.set_cons_zero, List.set_cons_succ]
                refine wpAnyH_take (i := 14) (oi := { dst := some 75, op := Op.binOp BinOp.eql 42 (Operand.tmp 69) (Operand.tmp 74) 42, type := _, pos := _, after := _, guard := some (4, true) }) (v := ?_) rfl (by kernel_rfl) (by kernel_rfl) (by kernel_rfl) (fun _ _ _ h => h) (Or.inl ⟨by rfl, ?_⟩) hH ?_
                rotate_left
                · (intro w hSw; (try dsimp only at hSw); go_simp; (try with_reducible rfl))
                try simp only [Act.put, List.setIfInBounds_toArray, List.set_cons_zero, List.set_cons_succ]
                refine wpAnyH_take (i := 15) (oi := { dst := some 76, op := Op.pick (Operand.tmp 65) (Operand.tmp 75) (Operand.const (Value.bool false)), type := _, pos := _, after := _, guard := none }) (v := ?_) rfl (by kernel_rfl) (by kernel_rfl) (by kernel_rfl) (fun _ _ _ h => h) (Or.inl ⟨by rfl, ?_⟩) hH ?_
                rotate_left
                · (intro w hSw; (try dsimp only at hSw); go_simp; (try with_reducible rfl))
                try simp only [Act.put, List.setIfInBounds_toArray, List.set_cons_zero, List.set_cons_succ]
                refine wpAnyH_done (by kernel_rfl) ?_ _
                refine NoPanic.normal ?_
                clear x0 y0 gg
                obtain ⟨x0, y0, gg⟩ := hH
                obtain ⟨k1, hk1⟩ : ∃ k1, k1 = k + 1 := ⟨_, rfl⟩
                have e1 : (k : Int) + 1 = (k1 : Int) := by omega
                have l1 : k1 ≤ on := by omega
                have HK1 := Lib.hid hk1
                have hln : (O.take k ++ [xk]).length + (O.drop k1).length = on := by rw [List.length_append, HLK.out, List.length_drop, HON.out]; simp; omega
                have HLN := Lib.hid hln
                clear hln hk1
                by_cases hcp : oc = k1
                · have hl0 : on - k1 = 0 := by omega
                  go_wp2_with (first
                    | (at_builtin; refine wpList_appAll kv 1 kv_len kv_one rfl _ _ 27 rfl 42 _ 4 Tryd.underlying27 info_key rfl (by decide) w2.heap.size _ _ _ (O.take k ++ [xk]) (O.drop k1) rfl (World.ownsRow.drew HO3.out) rfl (sq_zero (List.drop_of_length_le (by rw [HON.out]; omega)) (by omega)) (by rw [HLN.out]; unfold maxLen; omega) (by rw [HLN.out]; omega) gg.size ?_; intro v5 w5 o5 k5))
                  go_roundw
                  case rel => exact ⟨a + 1, by omega, by go_num, Lib.hid (by
                      rw [accA_succ HB.out]
                      unfold stepA
                      rw [HZ.out, if_pos rfl, ← HO.out, ← HXK.out, putS_eqG HT.out (fun y hy => by rw [HBK.out] at hy; injection hy with hy; rw [← hy]; exact HZ1.out)]
                      exact ⟨own_sq kv_len (by rw [drop_isG HBK.out hyx, ← HK1.out]; simpa using o5), own_rmy o5, kep_next HK2.out (gg.trans k5)⟩)⟩
                  case measure => simp [RowKit.intOf]; omega
                · have hcp2 : oc - k1 ≠ 0 := by omega
                  go_wp2_with (first
                    | (at_builtin; refine wpList_appAll kv 1 kv_len kv_one rfl _ _ 27 rfl 42 _ 4 Tryd.underlying27 info_key rfl (by decide) w2.heap.size _ _ _ (O.take k ++ [xk]) (O.drop k1) rfl (World.ownsRow.drew HO3.out) rfl ((sq_drop1 HON.out HQ.out).kep gg) (by rw [HLN.out]; unfold maxLen; omega) (by rw [HLN.out]; omega) gg.size ?_; intro v5 w5 o5 k5))
                  go_roundw
                  case rel => exact ⟨a + 1, by omega, by go_num, Lib.hid (by
                      rw [accA_succ HB.out]
                      unfold stepA
                      rw [HZ.out, if_pos rfl, ← HO.out, ← HXK.out, putS_eqG HT.out (fun y hy => by rw [HBK.out] at hy; injection hy with hy; rw [← hy]; exact HZ1.out)]
                      exact ⟨own_sq kv_len (by rw [drop_isG HBK.out hyx, ← HK1.out]; simpa using o5), own_rmy o5, kep_next HK2.out (gg.trans k5)⟩)⟩
                  case measure => simp [RowKit.intOf]; omega
              · have hq : (ty == xk) = false := beq_eq_false_iff_ne.2 hyx
                refine wp_region_noPanic ?_
                refine wp_region_held_drew (S := (fun w' => w'.cell? ⟨gl, off + a * 5, none⟩ = some (.int .u32 xk) ∧ w'.cell? ⟨go, oo + k, none⟩ = some (.int .u32 ty) ∧ Kep w2.heap.size w2 w')) (by kernel_rfl) (⟨by rw [World.cell?_drew]; exact x0, by rw [World.cell?_drew]; exact y0, kep_drew gg⟩) (fun hH => ?_)
                refine wpAnyH_take (i := 0) (oi := { dst := some 61, op := Op.move (Operand.tmp 9), type := _, pos := _, after := _, guard := none }) (v := ?_) rfl (by kernel_rfl) (by kernel_rfl) (by kernel_rfl) (fun _ _ _ h => h) (Or.inl ⟨by rfl, ?_⟩) hH ?_
                rotate_left
                · (intro w hSw; (try dsimp only at hSw); go_simp; (try with_reducible rfl))
                try simp only [Act.put, List.setIfInBounds_toArray, List.set_cons_zero, List.set_cons_succ]
                refine wpAnyH_take (i := 1) (oi := { dst := some 62, op := Op.move (Operand.tmp 5), type := _, pos := _, after := _, guard := none }) (v := ?_) rfl (by kernel_rfl) (by kernel_rfl) (by kernel_rfl) (fun _ _ _ h => h) (Or.inl ⟨by rfl, ?_⟩) hH ?_
                rotate_left
                · (intro w hSw; (try dsimp only at hSw); go_simp; (try with_reducible rfl))
                try simp only [Act.put, List.setIfInBounds_toArray, List.set_cons_zero, List.set_cons_succ]
                refine wpAnyH_take (i := 2) (oi := { dst := some 63, op := Op.call { callee := Callee.builtin Builtin.len, args := #[Operand.tmp 62], argTypes := #[27] }, type := _, pos := _, after := _, guard := none }) (v := ?_) rfl (by kernel_rfl) (by kernel_rfl) (by kernel_rfl) (fun _ _ _ h => h) (Or.inl ⟨by rfl, ?_⟩) hH ?_
                rotate_left
                · (intro w hSw; (try dsimp only at hSw); go_simp; (try with_reducible rfl))
                try simp only [Act.put, List.setIfInBounds_toArray, List.set_cons_zero, List.set_cons_succ]
                refine wpAnyH_take (i := 3) (oi := { dst := some 64, op := Op.binOp BinOp.lss 3 (Operand.tmp 61) (Operand.tmp 63) 3, type := _, pos := _, after := _, guard := none }) (v := ?_) rfl (by kernel_rfl) (by kernel_rfl) (by kernel_rfl) (fun _ _ _ h => h) (Or.inl ⟨by rfl, ?_⟩) hH ?_
                rotate_left
                · (intro w hSw; (try dsimp only at hSw); go_simp; (try with_reducible rfl))
                try simp only [Act.put, List.setIfInBounds_toArray, List.set_cons_zero, List.set_cons_succ]
                refine wpAnyH_take (i := 4) (oi := { dst := some 65, op := Op.move (Operand.tmp 64), type := _, pos := _, after := _, guard := none }) (v := ?_) rfl (by kernel_rfl) (by kernel_rfl) (by kernel_rfl) (fun _ _ _ h => h) (Or.inl ⟨by rfl, ?_⟩) hH ?_
                rotate_left
                · (intro w hSw; (try dsimp only at hSw); go_simp; (try with_reducible rfl))
                try simp only [Act.put, List.setIfInBounds_toArray, List.set_cons_zero, List.set_cons_succ]
                refine wpAnyH_take (i := 5) (oi := { dst := some 66, op := Op.move (Operand.tmp 5), type := _, pos := _, after := _, guard := some (4, true) }) (v := ?_) rfl (by kernel_rfl) (by kernel_rfl) (by kernel_rfl) (fun _ _ _ h => h) (Or.inl ⟨by rfl, ?_⟩) hH ?_
                rotate_left
                · (intro w hSw; (try dsimp only at hSw); go_simp; (try with_reducible rfl))
                try simp only [Act.put, List.setIfInBounds_toArray, List.set_cons_zero, List.set_cons_succ]
                refine wpAnyH_take (i := 6) (oi := { dst := some 67, op := Op.move (Operand.tmp 9), type := _, pos := _, after := _, guard := some (4, true) }) (v := ?_) rfl (by kernel_rfl) (by kernel_rfl) (by kernel_rfl) (fun _ _ _ h => h) (Or.inl ⟨by rfl, ?_⟩) hH ?_
                rotate_left
                · (intro w hSw; (try dsimp only at hSw); go_simp; (try with_reducible rfl))
                try simp only [Act.put, List.setIfInBounds_toArray, List.set_cons_zero, List.set_cons_succ]
                refine wpAnyH_take (i := 7) (oi := { dst := some 68, op := Op.indexAddr 27 (Operand.tmp 66) (Operand.tmp 67), type := _, pos := _, after := _, guard := some (4, true) }) (v := ?_) rfl (by kernel_rfl) (by kernel_rfl) (by kernel_rfl) (fun _ _ _ h => h) (Or.inl ⟨by rfl, ?_⟩) hH ?_
                rotate_left
                · (intro w hSw; (try dsimp only at hSw); go_simp; (try with_reducible rfl))
                try simp only [Act.put, List.setIfInBounds_toArray, List.set_cons_zero, List.set_cons_succ]
                refine wpAnyH_take (i := 8) (oi := { dst := some 69, op := Op.load 42 (Operand.tmp 68), type := _, pos := _, after := _, guard := some (4, true) }) (v := ?_) rfl (by kernel_rfl) (by kernel_rfl) (by kernel_rfl) (fun _ _ _ h => h) (Or.inl ⟨by rfl, ?_⟩) hH ?_
                rotate_left
                · (intro w hSw; (try dsimp only at hSw); go_simp; (try with_reducible rfl))
                try simp only [Act.put, List.setIfInBounds_toArray, List.set_cons_zero, List.set_cons_succ]
                refine wpAnyH_take (i := 9) (oi := { dst := some 70, op := Op.move (Operand.tmp 0), type := _, pos := _, after := _, guard := some (4, true) }) (v := ?_) rfl (by kernel_rfl) (by kernel_rfl) (by kernel_rfl) (fun _ _ _ h => h) (Or.inl ⟨by rfl, ?_⟩) hH ?_
                rotate_left
                · (intro w hSw; (try dsimp only at hSw); go_simp; (try with_reducible rfl))
                try simp only [Act.put, List.setIfInBounds_toArray, List.set_cons_zero, List.set_cons_succ]
                refine wpAnyH_take (i := 10) (oi := { dst := some 71, op := Op.move (Operand.tmp 7), type := _, pos := _, after := _, guard := some (4, true) }) (v := ?_) rfl (by kernel_rfl) (by kernel_rfl) (by kernel_rfl) (fun _ _ _ h => h) (Or.inl ⟨by rfl, ?_⟩) hH ?_
                rotate_left
                · (intro w hSw; (try dsimp only at hSw); go_simp; (try with_reducible rfl))
                try simp only [Act.put, List.setIfInBounds_toArray, List.set_cons_zero, List.set_cons_succ]
                refine wpAnyH_take (i := 11) (oi := { dst := some 72, op := Op.indexAddr 22 (Operand.tmp 70) (Operand.tmp 71), type := _, pos := _, after := _, guard := some (4, true) }) (v := ?_) rfl (by kernel_rfl) (by kernel_rfl) (by kernel_rfl) (fun _ _ _ h => h) (Or.inl ⟨by rfl, ?_⟩) hH ?_
                rotate_left
                · (intro w hSw; (try dsimp only at hSw); go_simp; (try with_reducible rfl))
                try simp only [Act.put, List.setIfInBounds_toArray, List.set_cons_zero, List.set_cons_succ]
                refine wpAnyH_take (i := 12) (oi := { dst := some 73, op := Op.fieldAddr 49 (Operand.tmp 72) 0, type := _, pos := _, after := _, guard := some (4, true) }) (v := ?_) rfl (by kernel_rfl) (by kernel_rfl) (by kernel_rfl) (fun _ _ _ h => h) (Or.inl ⟨by rfl, ?_⟩) hH ?_
                rotate_left
                · (intro w hSw; (try dsimp only at hSw); go_simp; (try with_reducible rfl))
                try simp only [Act.put, List.setIfInBounds_toArray, List.set_cons_zero, List.set_cons_succ]
                refine wpAnyH_take (i := 13) (oi := { dst := some 74, op := Op.load 42 (Operand.tmp 73), type := _, pos := _, after := _, guard := some (4, true) }) (v := ?_) rfl (by kernel_rfl) (by kernel_rfl) (by kernel_rfl) (fun _ _ _ h => h) (Or.inl ⟨by rfl, ?_⟩) hH ?_
                rotate_left
                · (intro w hSw; (try dsimp only at hSw); go_simp; (try with_reducible rfl))
                try simp only [Act.put, List.setIfInBounds_toArray, List.set_cons_zero, List.set_cons_succ]
                refine wpAnyH_take (i := 14) (oi := { dst := some 75, op := Op.binOp BinOp.eql 42 (Operand.tmp 69) (Operand.tmp 74) 42, type := _, pos := _, after := _, guard := some (4, true) }) (v := ?_) rfl (by kernel_rfl) (by kernel_rfl) (by kernel_rfl) (fun _ _ _ h => h) (Or.inl ⟨by rfl, ?_⟩) hH ?_
                rotate_left
                · (intro w hSw; (try dsimp only at hSw); go_simp; (try with_reducible rfl))
                try simp only [Act.put, List.setIfInBounds_toArray, List.set_cons_zero, List.set_cons_succ]
                refine wpAnyH_take (i := 15) (oi := { dst := some 76, op := Op.pick (Operand.tmp 65) (Operand.tmp 75) (Operand.const (Value.bool false)), type := _, pos := _, after := _, guard := none }) (v := ?_) rfl (by kernel_rfl) (by kernel_rfl) (by kernel_rfl) (fun _ _ _ h => h) (Or.inl ⟨by rfl, ?_⟩) hH ?_
                rotate_left
                · (intro w hSw; (try dsimp only at hSw); go_simp; (try with_reducible rfl))
                try simp only [Act.put, List.setIfInBounds_toArray, List.set_cons_zero, List.set_cons_succ]
                refine wpAnyH_done (by kernel_rfl) ?_ _
                refine NoPanic.normal ?_
                clear x0 y0 gg
                obtain ⟨x0, y0, gg⟩ := hH
                have hln : (O.take k ++ [xk]).length + (O.drop k).length = on + 1 := by rw [List.length_append, HLK.out, List.length_drop, HON.out]; simp; omega
                have HLN := Lib.hid hln
                clear hln
                have hcp2 : oc - k ≠ 0 := by omega
                go_wp2_with (first
                  | (at_builtin; refine wpList_appAll kv 1 kv_len kv_one rfl _ _ 27 rfl 42 _ 4 Tryd.underlying27 info_key rfl (by decide) w2.heap.size _ _ _ (O.take k ++ [xk]) (O.drop k) rfl (World.ownsRow.drew HO3.out) rfl ((sq_drop1 HON.out HQ.out).kep gg) (by rw [HLN.out]; unfold maxLen; omega) (by rw [HLN.out]; omega) gg.size ?_; intro v5 w5 o5 k5))
                go_roundw
                case rel => exact ⟨a + 1, by omega, by go_num, Lib.hid (by
                    rw [accA_succ HB.out]
                    unfold stepA
                    rw [HZ.out, if_pos rfl, ← HO.out, ← HXK.out, putS_eqG HT.out (fun y hy => by rw [HBK.out] at hy; injection hy with hy; rw [← hy]; exact HZ1.out)]
                    exact ⟨own_sq kv_len (by rw [drop_notG HBK.out hyx]; simpa using o5), own_rmy o5, kep_next HK2.out (gg.trans k5)⟩)⟩
                case measure => simp [RowKit.intOf]; omega
            · go_wp2_with (first
                | (at_builtin; refine wpList_app kv 1 kv_len kv_one rfl _ _ 27 rfl 42 _ 4 Tryd.underlying27 info_key rfl (by decide) w2.heap.size _ _ _ ty rfl (World.ownsRow.drew HOW.out) _ (by first | rfl | simp) rfl _ rfl (by rw [HLK.out]; unfold maxLen; omega) (by rw [HLK.out]; omega) gg.size ?_; intro v3 w3 o3 k3))
              have ht : O.take (k + 1) = O.take k ++ [ty] := by rw [List.take_add_one, HBK.out]; rfl
              have HM : Hid (w3.ownsRow w2.heap.size 42 1 v3 (O.take (k + 1)).length ((O.take (k + 1)).flatMap kv) ∧ Kep w2.heap.size w2 w3) := Lib.hid (by
                rw [ht]
                exact ⟨o3, gg.trans k3⟩)
              have HT2 : Hid (∀ y ∈ O.take (k + 1), kless y xk = true) := Lib.hid (fun y hy => by
                rw [ht] at hy
                rcases List.mem_append.1 hy with hy | hy
                · exact HT.out y hy
                · rw [List.mem_singleton.1 hy]
                  exact HZ1.out)
              clear o3 k3 ht
              go_roundw
              case rel => exact ⟨k + 1, by omega, by go_num, HT2, HM⟩
              case measure => simp [RowKit.intOf]; omega
          · obtain rfl : k = on := by omega
            go_wp2_with fail
            refine wp_region_noPanic ?_
            refine wp_region_held_drew (S := (fun w' => w'.cell? ⟨gl, off + a * 5, none⟩ = some (.int .u32 xk) ∧ Kep w2.heap.size w2 w')) (by kernel_rfl) (⟨by rw [World.cell?_drew]; exact x0, kep_drew gg⟩) (fun hH => ?_)
            refine wpAnyH_take (i := 0) (oi := { dst := some 28, op := Op.move (Operand.tmp 9), type := _, pos := _, after := _, guard := none }) (v := ?_) rfl (by kernel_rfl) (by kernel_rfl) (by kernel_rfl) (fun _ _ _ h => h) (Or.inl ⟨by rfl, ?_⟩) hH ?_
            rotate_left
            · (intro w hSw; (try dsimp only at hSw); go_simp; (try with_reducible rfl))
            try simp only [Act.put, List.setIfInBounds_toArray, List.set_cons_zero, List.set_cons_succ]
            refine wpAnyH_take (i := 1) (oi := { dst := some 29, op := Op.move (Operand.tmp 5), type := _, pos := _, after := _, guard := none }) (v := ?_) rfl (by kernel_rfl) (by kernel_rfl) (by kernel_rfl) (fun _ _ _ h => h) (Or.inl ⟨by rfl, ?_⟩) hH ?_
            rotate_left
            · (intro w hSw; (try dsimp only at hSw); go_simp; (try with_reducible rfl))
            try simp only [Act.put, List.setIfInBounds_toArray, List.set_cons_zero, List.set_cons_succ]
            refine wpAnyH_take (i := 2) (oi := { dst := some 30, op := Op.call { callee := Callee.builtin Builtin.len, args := #[Operand.tmp 29], argTypes := #[27] }, type := _, pos := _, after := _, guard := none }) (v := ?_) rfl (by kernel_rfl) (by kernel_rfl) (by kernel_rfl) (fun _ _ _ h => h) (Or.inl ⟨by rfl, ?_⟩) hH ?_
            rotate_left
            · (intro w hSw; (try dsimp only at hSw); go_simp; (try with_reducible rfl))
            try simp only [Act.put, List.setIfInBounds_toArray, List.set_cons_zero, List.set_cons_succ]
            refine wpAnyH_take (i := 3) (oi := { dst := some 31, op := Op.binOp BinOp.lss 3 (Operand.tmp 28) (Operand.tmp 30) 3, type := _, pos := _, after := _, guard := none }) (v := ?_) rfl (by kernel_rfl) (by kernel_rfl) (by kernel_rfl) (fun _ _ _ h => h) (Or.inl ⟨by rfl, ?_⟩) hH ?_
            rotate_left
            · (intro w hSw; (try dsimp only at hSw); go_simp; (try with_reducible rfl))
            try simp only [Act.put, List.setIfInBounds_toArray, List.set_cons_zero, List.set_cons_succ]
            refine wpAnyH_take (i := 4) (oi := { dst := some 32, op := Op.move (Operand.tmp 31), type := _, pos := _, after := _, guard := none }) (v := ?_) rfl (by kernel_rfl) (by kernel_rfl) (by kernel_rfl) (fun _ _ _ h => h) (Or.inl ⟨by rfl, ?_⟩) hH ?_
            rotate_left
            · (intro w hSw; (try dsimp only at hSw); go_simp; (try with_reducible rfl))
            try simp only [Act.put, List.setIfInBounds_toArray, List.set_cons_zero, List.set_cons_succ]
            refine wpAnyH_take (i := 5) (oi := { dst := some 33, op := Op.move (Operand.tmp 5), type := _, pos := _, after := _, guard := some (4, true) }) (v := undef) rfl (by kernel_rfl) (by kernel_rfl) (by kernel_rfl) (fun _ _ _ h => h) (Or.inr ⟨by rfl, rfl⟩) hH ?_
            try simp only [Act.put, List.setIfInBounds_toArray, List.set_cons_zero, List.set_cons_succ]
            refine wpAnyH_take (i := 6) (oi := { dst := some 34, op := Op.move (Operand.tmp 9), type := _, pos := _, after := _, guard := some (4, true) }) (v := undef) rfl (by kernel_rfl) (by kernel_rfl) (by kernel_rfl) (fun _ _ _ h => h) (Or.inr ⟨by rfl, rfl⟩) hH ?_
            try simp only [Act.put, List.setIfInBounds_toArray, List.set_cons_zero, List.set_cons_succ]
            refine wpAnyH_take (i := 7) (oi := { dst := some 35, op := Op.indexAddr 27 (Operand.tmp 33) (Operand.tmp 34), type := _, pos := _, after := _, guard := some (4, true) }) (v := undef) rfl (by kernel_rfl) (by kernel_rfl) (by kernel_rfl) (fun _ _ _ h => h) (Or.inr ⟨by rfl, rfl⟩) hH ?_
            try simp only [Act.put, List.setIfInBounds_toArray, List.set_cons_zero, List.set_cons_succ]
            refine wpAnyH_take (i := 8) (oi := { dst := some 36, op := Op.load 42 (Operand.tmp 35), type := _, pos := _, after := _, guard := some (4, true) }) (v := undef) rfl (by kernel_rfl) (by kernel_rfl) (by kernel_rfl) (fun _ _ _ h => h) (Or.inr ⟨by rfl, rfl⟩) hH ?_
            try simp only [Act.put, List.setIfInBounds_toArray, List.set_cons_zero, List.set_cons_succ]
            refine wpAnyH_take (i := 9) (oi := { dst := some 37, op := Op.move (Operand.tmp 0), type := _, pos := _, after := _, guard := some (4, true) }) (v := undef) rfl (by kernel_rfl) (by kernel_rfl) (by kernel_rfl) (fun _ _ _ h => h) (Or.inr ⟨by rfl, rfl⟩) hH ?_
            try simp only [Act.put, List.setIfInBounds_toArray, List.set_cons_zero, List.set_cons_succ]
            refine wpAnyH_take (i := 10) (oi := { dst := some 38, op := Op.move (Operand.tmp 7), type := _, pos := _, after := _, guard := some (4, true) }) (v := undef) rfl (by kernel_rfl) (by kernel_rfl) (by kernel_rfl) (fun _ _ _ h => h) (Or.inr ⟨by rfl, rfl⟩) hH ?_
            try simp only [Act.put, List.setIfInBounds_toArray, List.set_cons_zero, List.set_cons_succ]
            refine wpAnyH_take (i := 11) (oi := { dst := some 39, op := Op.indexAddr 22 (Operand.tmp 37) (Operand.tmp 38), type := _, pos := _, after := _, guard := some (4, true) }) (v := undef) rfl (by kernel_rfl) (by kernel_rfl) (by kernel_rfl) (fun _ _ _ h => h) (Or.inr ⟨by rfl, rfl⟩) hH ?_
            try simp only [Act.put, List.setIfInBounds_toArray, List.set_cons_zero, List.set_cons_succ]
            refine wpAnyH_take (i := 12) (oi := { dst := some 40, op := Op.fieldAddr 49 (Operand.tmp 39) 0, type := _, pos := _, after := _, guard := some (4, true) }) (v := undef) rfl (by kernel_rfl) (by kernel_rfl) (by kernel_rfl) (fun _ _ _ h => h) (Or.inr ⟨by rfl, rfl⟩) hH ?_
            try simp only [Act.put, List.setIfInBounds_toArray, List.set_cons_zero, List.set_cons_succ]
            refine wpAnyH_take (i := 13) (oi := { dst := some 41, op := Op.load 42 (Operand.tmp 40), type := _, pos := _, after := _, guard := some (4, true) }) (v := undef) rfl (by kernel_rfl) (by kernel_rfl) (by kernel_rfl) (fun _ _ _ h => h) (Or.inr ⟨by rfl, rfl⟩) hH ?_
            try simp only [Act.put, List.setIfInBounds_toArray, List.set_cons_zero, List.set_cons_succ]
            refine wpAnyH_take (i := 14) (oi := { dst := some 42, op := Op.binOp BinOp.lss 42 (Operand.tmp 36) (Operand.tmp 41) 42, type := _, pos := _, after := _, guard := some (4, true) }) (v := undef) rfl (by kernel_rfl) (by kernel_rfl) (by kernel_rfl) (fun _ _ _ h => h) (Or.inr ⟨by rfl, rfl⟩) hH ?_
            try simp only [Act.put, List.setIfInBounds_toArray, List.set_cons_zero, List.set_cons_succ]
            refine wpAnyH_take (i := 15) (oi := { dst := some 43, op := Op.pick (Operand.tmp 32) (Operand.tmp 42) (Operand.const (Value.bool false)), type := _, pos := _, after := _, guard := none }) (v := ?_) rfl (by kernel_rfl) (by kernel_rfl) (by kernel_rfl) (fun _ _ _ h => h) (Or.inl ⟨by rfl, ?_⟩) hH ?_
            rotate_left
            · (intro w hSw; (try dsimp only at hSw); go_simp; (try with_reducible rfl))
            try simp only [Act.put, List.setIfInBounds_toArray, List.set_cons_zero, List.set_cons_succ]
            refine wpAnyH_done (by kernel_rfl) ?_ _
            refine NoPanic.normal ?_
            clear x0 gg
            obtain ⟨x0, gg⟩ := hH
            go_wp2_with (first
              | (at_builtin; refine wpList_app kv 1 kv_len kv_one rfl _ _ 27 rfl 42 _ 4 Tryd.underlying27 info_key rfl (by decide) w2.heap.size _ _ _ xk rfl (World.ownsRow.drew HOW.out) _ (by first | rfl | simp) rfl _ rfl (by rw [HLK.out]; unfold maxLen; omega) (by rw [HLK.out]; omega) gg.size ?_; intro v3 w3 o3 k3))
            have gg3 := gg.trans k3
            clear gg x0 k3
            have gg := gg3
            clear gg3
            have x0 := gg.all HX2.out
            have HO3 := Lib.hid o3
            clear o3
            refine wp_region_noPanic ?_
            refine wp_region_held_drew (S := (fun w' => w'.cell? ⟨gl, off + a * 5, none⟩ = some (.int .u32 xk) ∧ Kep w2.heap.size w2 w')) (by kernel_rfl) (⟨by rw [World.cell?_drew]; exact x0, kep_drew gg⟩) (fun hH => ?_)
            refine wpAnyH_take (i := 0) (oi := { dst := some 61, op := Op.move (Operand.tmp 9), type := _, pos := _, after := _, guard := none }) (v := ?_) rfl (by kernel_rfl) (by kernel_rfl) (by kernel_rfl) (fun _ _ _ h => h) (Or.inl ⟨by rfl, ?_⟩) hH ?_
            rotate_left
            · (intro w hSw; (try dsimp only at hSw); go_simp; (try with_reducible rfl))
            try simp only [Act.put, List.setIfInBounds_toArray, List.set_cons_zero, List.set_cons_succ]
            refine wpAnyH_take (i := 1) (oi := { dst := some 62, op := Op.move (Operand.tmp 5), type := _, pos := _, after := _, guard := none }) (v := ?_) rfl (by kernel_rfl) (by kernel_rfl) (by kernel_rfl) (fun _ _ _ h => h) (Or.inl ⟨by rfl, ?_⟩) hH ?_
            rotate_left
            · (intro w hSw; (try dsimp only at hSw); go_simp; (try with_reducible rfl))
            try simp only [Act.put, List.setIfInBounds_toArray, List.set_cons_zero, List.set_cons_succ]
            refine wpAnyH_take (i := 2) (oi := { dst := some 63, op := Op.call { callee := Callee.builtin Builtin.len, args := #[Operand.tmp 62], argTypes := #[27] }, type := _, pos := _, after := _, guard := none }) (v := ?_) rfl (by kernel_rfl) (by kernel_rfl) (by kernel_rfl) (fun _ _ _ h => h) (Or.inl ⟨by rfl, ?_⟩) hH ?_
            rotate_left
            · (intro w hSw; (try dsimp only at hSw); go_simp; (try with_reducible rfl))
            try simp only [Act.put, List.setIfInBounds_toArray, List.set_cons_zero, List.set_cons_succ]
            refine wpAnyH_take (i := 3) (oi := { dst := some 64, op := Op.binOp BinOp.lss 3 (Operand.tmp 61) (Operand.tmp 63) 3, type := _, pos := _, after := _, guard := none }) (v := ?_) rfl (by kernel_rfl) (by kernel_rfl) (by kernel_rfl) (fun _ _ _ h => h) (Or.inl ⟨by rfl, ?_⟩) hH ?_
            rotate_left
            · (intro w hSw; (try dsimp only at hSw); go_simp; (try with_reducible rfl))
            try simp only [Act.put, List.setIfInBounds_toArray, List.set_cons_zero, List.set_cons_succ]
            refine wpAnyH_take (i := 4) (oi := { dst := some 65, op := Op.move (Operand.tmp 64), type := _, pos := _, after := _, guard := none }) (v := ?_) rfl (by kernel_rfl) (by kernel_rfl) (by kernel_rfl) (fun _ _ _ h => h) (Or.inl ⟨by rfl, ?_⟩) hH ?_
            rotate_left
            · (intro w hSw; (try dsimp only at hSw); go_simp; (try with_reducible rfl))
            try simp only [Act.put, List.setIfInBounds_toArray, List.set_cons_zero, List.set_cons_succ]
            refine wpAnyH_take (i := 5) (oi := { dst := some 66, op := Op.move (Operand.tmp 5), type := _, pos := _, after := _, guard := some (4, true) }) (v := undef) rfl (by kernel_rfl) (by kernel_rfl) (by kernel_rfl) (fun _ _ _ h => h) (Or.inr ⟨by rfl, rfl⟩) hH ?_
            try simp only [Act.put, List.setIfInBounds_toArray, List.set_cons_zero, List.set_cons_succ]
            refine wpAnyH_take (i := 6) (oi := { dst := some 67, op := Op.move (Operand.tmp 9), type := _, pos := _, after := _, guard := some (4, true) }) (v := undef) rfl (by kernel_rfl) (by kernel_rfl) (by kernel_rfl) (fun _ _ _ h => h) (Or.inr ⟨by rfl, rfl⟩) hH ?_
            try simp only [Act.put, List.setIfInBounds_toArray, List.set_cons_zero, List.set_cons_succ]
            refine wpAnyH_take (i := 7) (oi := { dst := some 68, op := Op.indexAddr 27 (Operand.tmp 66) (Operand.tmp 67), type := _, pos := _, after := _, guard := some (4, true) }) (v := undef) rfl (by kernel_rfl) (by kernel_rfl) (by kernel_rfl) (fun _ _ _ h => h) (Or.inr ⟨by rfl, rfl⟩) hH ?_
            try simp only [Act.put, List.setIfInBounds_toArray, List.set_cons_zero, List.set_cons_succ]
            refine wpAnyH_take (i := 8) (oi := { dst := some 69, op := Op.load 42 (Operand.tmp 68), type := _, pos := _, after := _, guard := some (4, true) }) (v := undef) rfl (by kernel_rfl) (by kernel_rfl) (by kernel_rfl) (fun _ _ _ h => h) (Or.inr ⟨by rfl, rfl⟩) hH ?_
            try simp only [Act.put, List.setIfInBounds_toArray, List.set_cons_zero, List.set_cons_succ]
            refine wpAnyH_take (i := 9) (oi := { dst := some 70, op := Op.move (Operand.tmp 0), type := _, pos := _, after := _, guard := some (4, true) }) (v := undef) rfl (by kernel_rfl) (by kernel_rfl) (by kernel_rfl) (fun _ _ _ h => h) (Or.inr ⟨by rfl, rfl⟩) hH ?_
            try simp only [Act.put, List.setIfInBounds_toArray, List.set_cons_zero, List.set_cons_succ]
            refine wpAnyH_take (i := 10) (oi := { dst := some 71, op := Op.move (Operand.tmp 7), type := _, pos := _, after := _, guard := some (4, true) }) (v := undef) rfl (by kernel_rfl) (by kernel_rfl) (by kernel_rfl) (fun _ _ _ h => h) (Or.inr ⟨by rfl, rfl⟩) hH ?_
            try simp only [Act.put, List.setIfInBounds_toArray, List.set_cons_zero, List.set_cons_succ]
            refine wpAnyH_take (i := 11) (oi := { dst := some 72, op := Op.indexAddr 22 (Operand.tmp 70) (Operand.tmp 71), type := _, pos := _, after := _, guard := some (4, true) }) (v := undef) rfl (by kernel_rfl) (by kernel_rfl) (by kernel_rfl) (fun _ _ _ h => h) (Or.inr ⟨by rfl, rfl⟩) hH ?_
            try simp only [Act.put, List.setIfInBounds_toArray, List.set_cons_zero, List.set_cons_succ]
            refine wpAnyH_take (i := 12) (oi := { dst := some 73, op := Op.fieldAddr 49 (Operand.tmp 72) 0, type := _, pos := _, after := _, guard := some (4, true) }) (v := undef) rfl (by kernel_rfl) (by kernel_rfl) (by kernel_rfl) (fun _ _ _ h => h) (Or.inr ⟨by rfl, rfl⟩) hH ?_
            try simp only [Act.put, List.setIfInBounds_toArray, List.set_cons_zero, List.set_cons_succ]
            refine wpAnyH_take (i := 13) (oi := { dst := some 74, op := Op.load 42 (Operand.tmp 73), type := _, pos := _, after := _, guard := some (4, true) }) (v := undef) rfl (by kernel_rfl) (by kernel_rfl) (by kernel_rfl) (fun _ _ _ h => h) (Or.inr ⟨by rfl, rfl⟩) hH ?_
            try simp only [Act.put, List.setIfInBounds_toArray, List.set_cons_zero, List.set_cons_succ]
            refine wpAnyH_take (i := 14) (oi := { dst := some 75, op := Op.binOp BinOp.eql 42 (Operand.tmp 69) (Operand.tmp 74) 42, type := _, pos := _, after := _, guard := some (4, true) }) (v := undef) rfl (by kernel_rfl) (by kernel_rfl) (by kernel_rfl) (fun _ _ _ h => h) (Or.inr ⟨by rfl, rfl⟩) hH ?_
            try simp only [Act.put, List.setIfInBounds_toArray, List.set_cons_zero, List.set_cons_succ]
            refine wpAnyH_take (i := 15) (oi := { dst := some 76, op := Op.pick (Operand.tmp 65) (Operand.tmp 75) (Operand.const (Value.bool false)), type := _, pos := _, after := _, guard := none }) (v := ?_) rfl (by kernel_rfl) (by kernel_rfl) (by kernel_rfl) (fun _ _ _ h => h) (Or.inl ⟨by rfl, ?_⟩) hH ?_
            rotate_left
            · (intro w hSw; (try dsimp only at hSw); go_simp; (try with_reducible rfl))
            try simp only [Act.put, List.setIfInBounds_toArray, List.set_cons_zero, List.set_cons_succ]
            refine wpAnyH_done (by kernel_rfl) ?_ _
            refine NoPanic.normal ?_
            clear x0 gg
            obtain ⟨x0, gg⟩ := hH
            have hd : O.drop k = [] := List.drop_of_length_le (by rw [HON.out]; omega)
            have HDR := Lib.hid hd
            have hln : (O.take k ++ [xk]).length + (O.drop k).length = k + 1 := by rw [List.length_append, HLK.out, hd]; rfl
            have HLN := Lib.hid hln
            clear hd hln
            cases ob
            · by_cases hcp : oc = k
              · go_wp2_with (first
                  | (at_builtin; refine wpList_appAll kv 1 kv_len kv_one rfl _ _ 27 rfl 42 _ 4 Tryd.underlying27 info_key rfl (by decide) w2.heap.size _ _ _ (O.take k ++ [xk]) (O.drop k) rfl (World.ownsRow.drew HO3.out) rfl (sq_zero HDR.out (by omega)) (by rw [HLN.out]; unfold maxLen; omega) (by rw [HLN.out]; omega) gg.size ?_; intro v5 w5 o5 k5))
                go_roundw
                case rel => exact ⟨a + 1, by omega, by go_num, Lib.hid (by
                    rw [accA_succ HB.out]
                    unfold stepA
                    rw [HZ.out, if_pos rfl, ← HO.out, ← HXK.out, putS_eqG HT.out (fun y hy => by rw [List.getElem?_eq_none (by rw [HON.out]; omega)] at hy; cases hy)]
                    exact ⟨own_sq kv_len (by rw [HDR.out] at o5 ⊢; simpa [dropOne] using o5), own_rmy o5, kep_next HK2.out (gg.trans k5)⟩)⟩
                case measure => simp [RowKit.intOf]; omega
              · have hcp2 : oc - k ≠ 0 := by omega
                go_wp2_with (first
                  | (at_builtin; refine wpList_appAll kv 1 kv_len kv_one rfl _ _ 27 rfl 42 _ 4 Tryd.underlying27 info_key rfl (by decide) w2.heap.size _ _ _ (O.take k ++ [xk]) (O.drop k) rfl (World.ownsRow.drew HO3.out) rfl (sq_zero HDR.out (by omega)) (by rw [HLN.out]; unfold maxLen; omega) (by rw [HLN.out]; omega) gg.size ?_; intro v5 w5 o5 k5))
                go_roundw
                case rel => exact ⟨a + 1, by omega, by go_num, Lib.hid (by
                    rw [accA_succ HB.out]
                    unfold stepA
                    rw [HZ.out, if_pos rfl, ← HO.out, ← HXK.out, putS_eqG HT.out (fun y hy => by rw [List.getElem?_eq_none (by rw [HON.out]; omega)] at hy; cases hy)]
                    exact ⟨own_sq kv_len (by rw [HDR.out] at o5 ⊢; simpa [dropOne] using o5), own_rmy o5, kep_next HK2.out (gg.trans k5)⟩)⟩
                case measure => simp [RowKit.intOf]; omega
            · by_cases hcp : oc = k
              · go_wp2_with (first
                  | (at_builtin; refine wpList_appAll kv 1 kv_len kv_one rfl _ _ 27 rfl 42 _ 4 Tryd.underlying27 info_key rfl (by decide) w2.heap.size _ _ _ (O.take k ++ [xk]) (O.drop k) rfl (World.ownsRow.drew HO3.out) rfl (sq_zero HDR.out (by omega)) (by rw [HLN.out]; unfold maxLen; omega) (by rw [HLN.out]; omega) gg.size ?_; intro v5 w5 o5 k5))
                go_roundw
                case rel => exact ⟨a + 1, by omega, by go_num, Lib.hid (by
                    rw [accA_succ HB.out]
                    unfold stepA
                    rw [HZ.out, if_pos rfl, ← HO.out, ← HXK.out, putS_eqG HT.out (fun y hy => by rw [List.getElem?_eq_none (by rw [HON.out]; omega)] at hy; cases hy)]
                    exact ⟨own_sq kv_len (by rw [HDR.out] at o5 ⊢; simpa [dropOne] using o5), own_rmy o5, kep_next HK2.out (gg.trans k5)⟩)⟩
                case measure => simp [RowKit.intOf]; omega
              · have hcp2 : oc - k ≠ 0 := by omega
                go_wp2_with (first
                  | (at_builtin; refine wpList_appAll kv 1 kv_len kv_one rfl _ _ 27 rfl 42 _ 4 Tryd.underlying27 info_key rfl (by decide) w2.heap.size _ _ _ (O.take k ++ [xk]) (O.drop k) rfl (World.ownsRow.drew HO3.out) rfl (sq_zero HDR.out (by omega)) (by rw [HLN.out]; unfold maxLen; omega) (by rw [HLN.out]; omega) gg.size ?_; intro v5 w5 o5 k5))
                go_roundw
                case rel => exact ⟨a + 1, by omega, by go_num, Lib.hid (by
                    rw [accA_succ HB.out]
                    unfold stepA
                    rw [HZ.out, if_pos rfl, ← HO.out, ← HXK.out, putS_eqG HT.out (fun y hy => by rw [List.getElem?_eq_none (by rw [HON.out]; omega)] at hy; cases hy)]
                    exact ⟨own_sq kv_len (by rw [HDR.out] at o5 ⊢; simpa [dropOne] using o5), own_rmy o5, kep_next HK2.out (gg.trans k5)⟩)⟩
                case measure => simp [RowKit.intOf]; omega
    · go_wp2_with fail
      go_ret
      exact ⟨_, rfl, ⟨by rw [← accA_all (a := a) (by rw [HN.out]; omega)]; exact HP.out.1, HP.out.2.1⟩, kep_next K0.out HP.out.2.2⟩
end Go.Proofs.YtnmnbogjnjbopaaDoor
