/-
  Package grid: the laws' fill.
-/
import Derived.Test.YtnmnbogjnjbopaaDoorGridCon
import Derived.Deep.DeepCutAuto
import Derived.Deep.QuietTactic
import Derived.BigQuiet
namespace Go.Proofs.YtnmnbogjnjbopaaDoor
open Go.RowKit Go.Lib

set_option maxRecDepth 100000 in
set_option maxHeartbeats 4000000 in
theorem fill_any {GI : World → Nat → (Nat → Prop) → List Ent → Prop} (O : GOps GI) (g : Nat) (S : Nat → Prop) (M L : List Ent) (v : Value) (w : World) (hg : GI w g S M) (hq : Sq ev 5 w v L) (ha : L ≠ [] → Off S v) (hL : ∀ x ∈ L, EntOk x) (hm : M.length + L.length ≤ 100) :
    Calls Tryd.prog 15 #[.pointer (some ⟨g, 0, none⟩), v] w fun e w' => (∃ u, e = .returned u) ∧ ∃ S', GI w' g S' (M ++ L) ∧ More w S S' ∧ Oth S w w' := by
  obtain ⟨base, cap, rfl, H⟩ := hq
  have HC := Lib.hid H
  have HA := Lib.hid ha
  have HL := Lib.hid hL
  have HG := Lib.hid hg
  clear H ha hL hg
  generalize hl : L.length = len at *
  have HN := Lib.hid hl
  clear hl
  go_enter Tryd.func15, Tryd.ntmps15
  go_wp2_with fail
  go_loopw [4, 5] (fun i _ wr => ∃ k : Nat, k ≤ len ∧ i = .int .i64 k ∧ Hid (∃ Sk, GI wr g Sk (M ++ L.take k) ∧ More w S Sk ∧ Oth S w wr)) (fun i _ _ => len - (RowKit.intOf i).toNat)
  case atStart => exact ⟨0, by omega, rfl, Lib.hid ⟨S, by simpa using HG.out, More.refl _ _, Oth.of_kep (Kep.refl _ _)⟩⟩
  case round =>
    obtain ⟨k, hk, rfl, HR⟩ := hrel
    by_cases hlt : k < len
    · have hb : L[k]? = some (L[k]'(by rw [HN.out]; exact hlt)) := List.getElem?_eq_getElem _
      generalize L[k]'(by rw [HN.out]; exact hlt) = x at hb
      obtain ⟨gl, off, rfl, q⟩ := HC.out k x hb
      obtain ⟨Sk, hg, hmo, hoth⟩ := HR.out
      have hx := HL.out x (List.mem_of_getElem? hb)
      obtain ⟨xk, xa, xb, xc, xd⟩ := x
      have hgl : ¬ S gl := HA.out (fun e => by rw [e] at hb; simp at hb) gl rfl
      have hlt0 : gl < w.heap.size := World.block_lt_of_cell? _ _ (q 0 _ rfl)
      have t0 : wr.cell? ⟨gl, off + k * 5, none⟩ = some (.int .u32 xk) := hoth.cell hgl (q 0 _ rfl)
      have t1 : wr.cell? ⟨gl, off + k * 5 + 1, none⟩ = some (.int .i32 xa) := hoth.cell hgl (q 1 _ rfl)
      have t2 : wr.cell? ⟨gl, off + k * 5 + 2, none⟩ = some (.int .i32 xb) := hoth.cell hgl (q 2 _ rfl)
      have t3 : wr.cell? ⟨gl, off + k * 5 + 3, none⟩ = some (.int .i32 xc) := hoth.cell hgl (q 3 _ rfl)
      have t4 : wr.cell? ⟨gl, off + k * 5 + 4, none⟩ = some (.int .i32 xd) := hoth.cell hgl (q 4 _ rfl)
      have hgk : ¬ Sk gl := fun s => by rcases hmo gl s with s | s; exact hgl s; omega
      have hnew : ¬ Sk wr.heap.size := fun s => by have := O.lt hg _ s; omega
      have HB := Lib.hid hb
      have HX := Lib.hid hx
      have HGK := Lib.hid hgk
      have HNW := Lib.hid hnew
      have HMO := Lib.hid hmo
      have HOT := Lib.hid hoth
      have HGI := Lib.hid hg
      clear hb q hx hgl hgk hnew hmo hoth hg HR hlt0
      go_wp2_with fail
      obtain ⟨W4, hW4⟩ : ∃ W4, W4 = wr.alloc (.cells #[.int .i32 xa, .int .i32 xb, .int .i32 xc, .int .i32 xd] 47) := ⟨_, rfl⟩
      rw [← hW4]
      have hk4 : Kep wr.heap.size wr W4 := by rw [hW4]; exact kep_more (Kep.refl _ _) _
      replace t0 := hk4.all t0
      clear t1 t2 t3 t4
      have a0 : W4.cell? ⟨wr.heap.size, 0, none⟩ = some (.int .i32 xa) := by rw [hW4, World.cell?_alloc_at _ _ _ _ (by simp)]; rfl
      have a1 : W4.cell? ⟨wr.heap.size, 1, none⟩ = some (.int .i32 xb) := by rw [hW4, World.cell?_alloc_at _ _ _ _ (by simp)]; rfl
      have a2 : W4.cell? ⟨wr.heap.size, 2, none⟩ = some (.int .i32 xc) := by rw [hW4, World.cell?_alloc_at _ _ _ _ (by simp)]; rfl
      have a3 : W4.cell? ⟨wr.heap.size, 3, none⟩ = some (.int .i32 xd) := by rw [hW4, World.cell?_alloc_at _ _ _ _ (by simp)]; rfl
      have HG4 := Lib.hid (O.kep HGI.out (kep_drew hk4))
      have HK4 := Lib.hid (kep_drew hk4)
      clear hW4 hk4
      refine wp_region_noPanic ?_
      refine wp_region_held_drew (S := (fun w' => w'.cell? ⟨gl, off + k * 5, none⟩ = some (.int .u32 xk) ∧ w'.cell? ⟨wr.heap.size, 0, none⟩ = some (.int .i32 xa) ∧ w'.cell? ⟨wr.heap.size, 1, none⟩ = some (.int .i32 xb) ∧ w'.cell? ⟨wr.heap.size, 2, none⟩ = some (.int .i32 xc) ∧ w'.cell? ⟨wr.heap.size, 3, none⟩ = some (.int .i32 xd) ∧ True)) (by kernel_rfl) (⟨by rw [World.cell?_drew]; exact t0, by rw [World.cell?_drew]; exact a0, by rw [World.cell?_drew]; exact a1, by rw [World.cell?_drew]; exact a2, by rw [World.cell?_drew]; exact a3, trivial⟩) (fun hH => ?_)
      refine wpAnyH_take (i := 0) (oi := { dst := some 17, op := Op.move (Operand.tmp 0), type := _, pos := _, after := _, guard := none }) (v := ?_) rfl (by kernel_rfl) (by kernel_rfl) (by kernel_rfl) (fun _ _ _ h => h) (Or.inl ⟨by rfl, ?_⟩) hH ?_
      rotate_left
      · (intro w hSw; (try dsimp only at hSw); go_simp; (try with_reducible rfl))
      try simp only [Act.put, List.setIfInBounds_toArray, List.set_cons_zero, List.set_cons_succ]
      refine wpAnyH_take (i := 1) (oi := { dst := some 18, op := Op.move (Operand.tmp 1), type := _, pos := _, after := _, guard := none }) (v := ?_) rfl (by kernel_rfl) (by kernel_rfl) (by kernel_rfl) (fun _ _ _ h => h) (Or.inl ⟨by rfl, ?_⟩) hH ?_
      rotate_left
      · (intro w hSw; (try dsimp only at hSw); go_simp; (try with_reducible rfl))
      try simp only [Act.put, List.setIfInBounds_toArray, List.set_cons_zero, List.set_cons_succ]
      refine wpAnyH_take (i := 2) (oi := { dst := some 19, op := Op.move (Operand.tmp 4), type := _, pos := _, after := _, guard := none }) (v := ?_) rfl (by kernel_rfl) (by kernel_rfl) (by kernel_rfl) (fun _ _ _ h => h) (Or.inl ⟨by rfl, ?_⟩) hH ?_
      rotate_left
      · (intro w hSw; (try dsimp only at hSw); go_simp; (try with_reducible rfl))
      try simp only [Act.put, List.setIfInBounds_toArray, List.set_cons_zero, List.set_cons_succ]
      refine wpAnyH_take (i := 3) (oi := { dst := some 20, op := Op.indexAddr 22 (Operand.tmp 18) (Operand.tmp 19), type := _, pos := _, after := _, guard := none }) (v := ?_) rfl (by kernel_rfl) (by kernel_rfl) (by kernel_rfl) (fun _ _ _ h => h) (Or.inl ⟨by rfl, ?_⟩) hH ?_
      rotate_left
      · (intro w hSw; (try dsimp only at hSw); go_simp; (try with_reducible rfl))
      try simp only [Act.put, List.setIfInBounds_toArray, List.set_cons_zero, List.set_cons_succ]
      refine wpAnyH_take (i := 4) (oi := { dst := some 21, op := Op.fieldAddr 49 (Operand.tmp 20) 0, type := _, pos := _, after := _, guard := none }) (v := ?_) rfl (by kernel_rfl) (by kernel_rfl) (by kernel_rfl) (fun _ _ _ h => h) (Or.inl ⟨by rfl, ?_⟩) hH ?_
      rotate_left
      · (intro w hSw; (try dsimp only at hSw); go_simp; (try with_reducible rfl))
      try simp only [Act.put, List.setIfInBounds_toArray, List.set_cons_zero, List.set_cons_succ]
      refine wpAnyH_take (i := 5) (oi := { dst := some 22, op := Op.load 42 (Operand.tmp 21), type := _, pos := _, after := _, guard := none }) (v := ?_) rfl (by kernel_rfl) (by kernel_rfl) (by kernel_rfl) (fun _ _ _ h => h) (Or.inl ⟨by rfl, ?_⟩) hH ?_
      rotate_left
      · (intro w hSw; (try dsimp only at hSw); go_simp; (try with_reducible rfl))
      try simp only [Act.put, List.setIfInBounds_toArray, List.set_cons_zero, List.set_cons_succ]
      refine wpAnyH_take (i := 6) (oi := { dst := some 23, op := Op.fieldAddr 47 (Operand.tmp 5) 0, type := _, pos := _, after := _, guard := none }) (v := ?_) rfl (by kernel_rfl) (by kernel_rfl) (by kernel_rfl) (fun _ _ _ h => h) (Or.inl ⟨by rfl, ?_⟩) hH ?_
      rotate_left
      · (intro w hSw; (try dsimp only at hSw); go_simp; (try with_reducible rfl))
      try simp only [Act.put, List.setIfInBounds_toArray, List.set_cons_zero, List.set_cons_succ]
      refine wpAnyH_take (i := 7) (oi := { dst := some 24, op := Op.load 21 (Operand.tmp 23), type := _, pos := _, after := _, guard := none }) (v := ?_) rfl (by kernel_rfl) (by kernel_rfl) (by kernel_rfl) (fun _ _ _ h => h) (Or.inl ⟨by rfl, ?_⟩) hH ?_
      rotate_left
      · (intro w hSw; (try dsimp only at hSw); go_simp; (try with_reducible rfl))
      try simp only [Act.put, List.setIfInBounds_toArray, List.set_cons_zero, List.set_cons_succ]
      refine wpAnyH_take (i := 8) (oi := { dst := some 25, op := Op.fieldAddr 47 (Operand.tmp 5) 1, type := _, pos := _, after := _, guard := none }) (v := ?_) rfl (by kernel_rfl) (by kernel_rfl) (by kernel_rfl) (fun _ _ _ h => h) (Or.inl ⟨by rfl, ?_⟩) hH ?_
      rotate_left
      · (intro w hSw; (try dsimp only at hSw); go_simp; (try with_reducible rfl))
      try simp only [Act.put, List.setIfInBounds_toArray, List.set_cons_zero, List.set_cons_succ]
      refine wpAnyH_take (i := 9) (oi := { dst := some 26, op := Op.load 21 (Operand.tmp 25), type := _, pos := _, after := _, guard := none }) (v := ?_) rfl (by kernel_rfl) (by kernel_rfl) (by kernel_rfl) (fun _ _ _ h => h) (Or.inl ⟨by rfl, ?_⟩) hH ?_
      rotate_left
      · (intro w hSw; (try dsimp only at hSw); go_simp; (try with_reducible rfl))
      try simp only [Act.put, List.setIfInBounds_toArray, List.set_cons_zero, List.set_cons_succ]
      refine wpAnyH_take (i := 10) (oi := { dst := some 27, op := Op.fieldAddr 47 (Operand.tmp 5) 2, type := _, pos := _, after := _, guard := none }) (v := ?_) rfl (by kernel_rfl) (by kernel_rfl) (by kernel_rfl) (fun _ _ _ h => h) (Or.inl ⟨by rfl, ?_⟩) hH ?_
      rotate_left
      · (intro w hSw; (try dsimp only at hSw); go_simp; (try with_reducible rfl))
      try simp only [Act.put, List.setIfInBounds_toArray, List.set_cons_zero, List.set_cons_succ]
      refine wpAnyH_take (i := 11) (oi := { dst := some 28, op := Op.load 21 (Operand.tmp 27), type := _, pos := _, after := _, guard := none }) (v := ?_) rfl (by kernel_rfl) (by kernel_rfl) (by kernel_rfl) (fun _ _ _ h => h) (Or.inl ⟨by rfl, ?_⟩) hH ?_
      rotate_left
      · (intro w hSw; (try dsimp only at hSw); go_simp; (try with_reducible rfl))
      try simp only [Act.put, List.setIfInBounds_toArray, List.set_cons_zero, List.set_cons_succ]
      refine wpAnyH_take (i := 12) (oi := { dst := some 29, op := Op.fieldAddr 47 (Operand.tmp 5) 3, type := _, pos := _, after := _, guard := none }) (v := ?_) rfl (by kernel_rfl) (by kernel_rfl) (by kernel_rfl) (fun _ _ _ h => h) (Or.inl ⟨by rfl, ?_⟩) hH ?_
      rotate_left
      · (intro w hSw; (try dsimp only at hSw); go_simp; (try with_reducible rfl))
      try simp only [Act.put, List.setIfInBounds_toArray, List.set_cons_zero, List.set_cons_succ]
      refine wpAnyH_take (i := 13) (oi := { dst := some 30, op := Op.load 21 (Operand.tmp 29), type := _, pos := _, after := _, guard := none }) (v := ?_) rfl (by kernel_rfl) (by kernel_rfl) (by kernel_rfl) (fun _ _ _ h => h) (Or.inl ⟨by rfl, ?_⟩) hH ?_
      rotate_left
      · (intro w hSw; (try dsimp only at hSw); go_simp; (try with_reducible rfl))
      try simp only [Act.put, List.setIfInBounds_toArray, List.set_cons_zero, List.set_cons_succ]
      refine wpAnyH_take (i := 14) (oi := { dst := some 31, op := Op.build 60 #[(0, Operand.tmp 24), (1, Operand.tmp 26), (2, Operand.tmp 28), (3, Operand.tmp 30)], type := _, pos := _, after := _, guard := none }) (v := ?_) rfl (by kernel_rfl) (by kernel_rfl) (by kernel_rfl) (fun _ _ _ h => h) (Or.inl ⟨by rfl, ?_⟩) hH ?_
      rotate_left
      · (intro w hSw; (try dsimp only at hSw); go_simp; (try with_reducible rfl))
      try simp only [Act.put, List.setIfInBounds_toArray, List.set_cons_zero, List.set_cons_succ]
      refine wpAnyH_ready (rs := [15]) (by kernel_rfl) (by simp) ?_
      refine AllReadyH.cons (o := { dst := some 32, op := Op.call { callee := Callee.value (Operand.func 37), args := #[Operand.tmp 17, Operand.tmp 22, Operand.tmp 31], argTypes := #[32, 42, 60] }, type := _, pos := _, after := _, guard := none }) rfl (fun K hK => ?_) AllReadyH.nil
      go_simp
      refine (O.insert g Sk _ ⟨xk, xa, xb, xc, xd⟩ _ HG4.out HX.out (by rw [List.length_append, List.length_take, HN.out]; omega)).mono ?_; rintro e v4_15 ⟨⟨u, rfl⟩, S2, hg2, hm2, ho2⟩
      refine hK.out _ _ (by (try dsimp only); exact ⟨ho2.cell HGK.out hH.1, ho2.cell HNW.out hH.2.1, ho2.cell HNW.out hH.2.2.1, ho2.cell HNW.out hH.2.2.2.1, ho2.cell HNW.out hH.2.2.2.2.1, trivial⟩) (fun hH2 => ?_)
      clear hK K hH; have hH := hH2; clear hH2
      try simp only [Act.put, List.setIfInBounds_toArray, List.set_cons_zero, List.set_cons_succ]
      refine wpAnyH_done (by kernel_rfl) ?_ _
      refine NoPanic.normal ?_
      have HM : Hid (∃ Sk, GI v4_15 g Sk (M ++ L.take (k + 1)) ∧ More w S Sk ∧ Oth S w v4_15) := Lib.hid (by
        have ht : L.take (k + 1) = L.take k ++ [⟨xk, xa, xb, xc, xd⟩] := by rw [List.take_add_one, HB.out]; rfl
        rw [ht, ← List.append_assoc]
        refine ⟨S2, hg2, HMO.out.trans (Nat.le_trans HOT.out.size HK4.out.size) hm2, (HOT.out.trans HMO.out (Oth.of_kep HK4.out)).trans HMO.out ho2⟩)
      clear hg2 hm2 ho2 hH
      go_wp2_with fail
      go_roundw
      case rel => exact ⟨k + 1, by omega, by go_num, HM⟩
      case measure => simp [RowKit.intOf]; omega
    · go_wp2_with fail
      go_end0
      have e : L.take k = L := List.take_of_length_le (by rw [HN.out]; omega)
      have := HR.out
      rw [e] at this
      exact ⟨⟨_, rfl⟩, this⟩
end Go.Proofs.YtnmnbogjnjbopaaDoor
