/-
  Package grid: the law GridPoints.
-/
import Derived.Test.YtnmnbogjnjbopaaDoorGridFill
import Derived.Test.YtnmnbogjnjbopaaDoorBoxAll
import Derived.Deep.DeepCutAuto
namespace Go.Proofs.YtnmnbogjnjbopaaDoor
open Go.RowKit Go.Lib

theorem pt_bks {x : Ent} {px py : Int} (h : conB x.a x.b x.c x.d px py = true) : (bksE x).contains (bktN (colN px) (colN py)) = true := by
  have h := of_decide_eq_true h
  have h1 := colN_le (show x.a ≤ px by omega)
  have h2 := colN_le (show px ≤ x.c by omega)
  have h3 := colN_le (show x.b ≤ py by omega)
  have h4 := colN_le (show py ≤ x.d by omega)
  have hm : (colN px, colN py) ∈ cellsB x.a x.b x.c x.d := by
    unfold cellsB
    rw [show empB x.a x.b x.c x.d = false from decide_eq_false (by omega), if_neg (by simp), allC_mem]
    unfold ncB
    omega
  rw [List.contains_iff_mem]
  exact List.mem_map_of_mem hm
theorem at_has {L : List Ent} {x : Ent} {px py : Int} (hx : x ∈ L) (h : conB x.a x.b x.c x.d px py = true) : x.k ∈ atL L (bktN (colN px) (colN py)) := ((atL_spec L _).2 _).2 ⟨x, hx, pt_bks h, rfl⟩
theorem at_asc {L : List Ent} {n : Int} {j k : Nat} {p q : Int} (hp : (atL L n)[j]? = some p) (hq : (atL L n)[k]? = some q) (h : j < k) : p < q := by
  obtain ⟨h1, e1⟩ := List.getElem?_eq_some_iff.1 hp
  obtain ⟨h2, e2⟩ := List.getElem?_eq_some_iff.1 hq
  have := List.pairwise_iff_getElem.1 (atL_spec L n).1 j k h1 h2 h
  rw [e1, e2] at this
  exact of_decide_eq_true this
theorem at_cand {L : List Ent} {n : Int} {p q : Int} (hp : p ∈ atL L n) (hq : q ∈ atL L n) (h : p < q) : (candL L).contains (p, q) = true := by
  obtain ⟨x, hx, hxn, rfl⟩ := ((atL_spec L n).2 p).1 hp
  obtain ⟨y, hy, hyn, rfl⟩ := ((atL_spec L n).2 q).1 hq
  rw [List.contains_iff_mem, (candL_spec L).2]
  refine ⟨x, hx, y, hy, ?_, rfl⟩
  unfold candT comE
  rw [decide_eq_true h, Bool.true_and, List.any_eq_true]
  exact ⟨n, List.contains_iff_mem.1 hxn, hyn⟩
set_option maxRecDepth 100000 in
set_option maxHeartbeats 2000000 in
theorem gpl_bad (AW : Hid GAwake) (px py : Int) (L : List Ent) (hl9 : L.length ≤ 9223372036854775807) (HF : Hid (∀ x ∈ L, FitE x)) (v : Value) (w : World) (F0 : Fac w) (hq : Sq ev 5 w v L) (hfew : fewB L = false) : Calls Tryd.prog 6 #[v, .agg #[.int .i32 px, .int .i32 py]] w fun e w' => e = .returned (.bool true) ∧ Kep w.heap.size w w' := by
  obtain ⟨base, cap, rfl⟩ := hq.shape
  have HQ := Lib.hid hq
  clear hq
  have FW : Hid (∀ v w, Sq ev 5 w v L → Calls Tryd.prog 14 #[v] w fun e w' => e = .returned (.bool false) ∧ Kep w.heap.size w w') := Lib.hid (fun v w h => by have := rfw L hl9 HF v w h; rw [hfew] at this; exact this)
  go_enter Tryd.func6, Tryd.ntmps6
  go_wp2_with (first
    | ((with_reducible refine (AW.out _ (F0.kep (by (repeat (first | with_reducible assumption | refine kep_more ?_ _ | refine kep_drew ?_ | exact Kep.refl _ _))))).mono ?_); rintro e w1 ⟨rfl, g1⟩
       first
         | (replace gg := kep_next gg g1)
         | (have n0 := Kep.all g1 (a := ⟨w.heap.size, 0, none⟩) (v := .int .i32 px) (by (repeat (first | rw [World.cell?_drew] | rw [World.cell?_alloc_past _ _ _ (by first | (simp; done) | (simp; omega))])); rw [World.cell?_alloc_at _ _ _ _ (by simp)]; rfl)
            have n1 := Kep.all g1 (a := ⟨w.heap.size, 1, none⟩) (v := .int .i32 py) (by (repeat (first | rw [World.cell?_drew] | rw [World.cell?_alloc_past _ _ _ (by first | (simp; done) | (simp; omega))])); rw [World.cell?_alloc_at _ _ _ _ (by simp)]; rfl)
            have gg := kep_next (kep_more (Kep.refl _ _) _) g1
            have ql := HQ.out.kep (kep_next (kep_more (Kep.refl _ _) _) g1)))
    | ((with_reducible refine (FW.out _ _ ql).mono ?_); rintro e w2 ⟨rfl, g2⟩
       replace ql := ql.kep g2
       replace n0 := Kep.all g2 (a := ⟨w.heap.size, 0, none⟩) (v := .int .i32 px) n0
       replace n1 := Kep.all g2 (a := ⟨w.heap.size, 1, none⟩) (v := .int .i32 py) n1
       replace gg := kep_next gg g2
       have zn_w2 : w.heap.size < w2.heap.size := World.block_lt_of_cell? _ _ n0))
  go_ret
  exact ⟨rfl, gg⟩
set_option maxRecDepth 100000 in
set_option maxHeartbeats 8000000 in
theorem gpl_ok {GI : World → Nat → (Nat → Prop) → List Ent → Prop} (O : GOps GI) (AW : Hid GAwake) (px py : Int) (hx : In3 px) (hy : In3 py) (L : List Ent) (hl9 : L.length ≤ 9223372036854775807) (HF : Hid (∀ x ∈ L, FitE x)) (v : Value) (w : World) (F0 : Fac w) (hq : Sq ev 5 w v L) (HU : Hid (∀ x ∈ L, (Lit.int .u32 x.k).wf = true)) (hfew : fewB L = true) : Calls Tryd.prog 6 #[v, .agg #[.int .i32 px, .int .i32 py]] w fun e w' => e = .returned (.bool true) ∧ Kep w.heap.size w w' := by
  obtain ⟨base, cap, rfl⟩ := hq.shape
  have HQ := Lib.hid hq
  clear hq
  have FW : Hid (∀ v w, Sq ev 5 w v L → Calls Tryd.prog 14 #[v] w fun e w' => e = .returned (.bool true) ∧ Kep w.heap.size w w') := Lib.hid (fun v w h => by have := rfw L hl9 HF v w h; rw [hfew] at this; exact this)
  obtain ⟨hm, hcl⟩ := few_ok hfew
  have HOK : Hid (∀ x ∈ L, EntOk x) := Lib.hid (fun x hx => ⟨HU.out x hx, HF.out x hx, hcl x hx⟩)
  clear hcl
  go_enter Tryd.func6, Tryd.ntmps6
  go_wp2_with (first
    | ((with_reducible refine (AW.out _ (F0.kep (by (repeat (first | with_reducible assumption | refine kep_more ?_ _ | refine kep_drew ?_ | exact Kep.refl _ _))))).mono ?_); rintro e w1 ⟨rfl, g1⟩
       have n0 := Kep.all g1 (a := ⟨w.heap.size, 0, none⟩) (v := .int .i32 px) (by (repeat (first | rw [World.cell?_drew] | rw [World.cell?_alloc_past _ _ _ (by first | (simp; done) | (simp; omega))])); rw [World.cell?_alloc_at _ _ _ _ (by simp)]; rfl)
       have n1 := Kep.all g1 (a := ⟨w.heap.size, 1, none⟩) (v := .int .i32 py) (by (repeat (first | rw [World.cell?_drew] | rw [World.cell?_alloc_past _ _ _ (by first | (simp; done) | (simp; omega))])); rw [World.cell?_alloc_at _ _ _ _ (by simp)]; rfl)
       have gg := kep_next (kep_more (Kep.refl _ _) _) g1
       have ql := HQ.out.kep (kep_next (kep_more (Kep.refl _ _) _) g1)
       have zn_w1 : w.heap.size < w1.heap.size := World.block_lt_of_cell? _ _ n0)
    | ((with_reducible refine (FW.out _ _ ql).mono ?_); rintro e w2 ⟨rfl, g2⟩
       replace ql := ql.kep g2
       replace n0 := Kep.all g2 (a := ⟨w.heap.size, 0, none⟩) (v := .int .i32 px) n0
       replace n1 := Kep.all g2 (a := ⟨w.heap.size, 1, none⟩) (v := .int .i32 py) n1
       replace gg := kep_next gg g2
       have zn_w2 : w.heap.size < w2.heap.size := World.block_lt_of_cell? _ _ n0)
    | (refine (fill_any O w2.heap.size (fun k => k = w2.heap.size) [] L _ _ (O.new w2 (F0.kep gg)) (ql.kep (kep_more (Kep.refl _ _) _)) (fun hl => off_ge ev_len (by decide) ql (fun k q => by omega) hl) HOK.out (by simp; omega)).mono ?_; rintro e w3 ⟨⟨u, rfl⟩, S3, hgi, hm3, ho3⟩
       have g3 : Kep w2.heap.size w2 w3 := (kep_more (Kep.refl _ _) _).trans (ho3.kep (by simp) (fun k q => by omega))
       rw [List.nil_append] at hgi
       replace ql := ql.kep g3
       replace n0 := Kep.all g3 (a := ⟨w.heap.size, 0, none⟩) (v := .int .i32 px) n0
       replace n1 := Kep.all g3 (a := ⟨w.heap.size, 1, none⟩) (v := .int .i32 py) n1
       replace gg := kep_next gg g3
       have zn_w3 : w.heap.size < w3.heap.size := World.block_lt_of_cell? _ _ n0)
    | (refine (O.at_ w2.heap.size S3 L px py _ hgi HOK.out (by omega) hx hy).mono ?_; rintro e w4 ⟨c0, rfl, ⟨qk, fk⟩, g4⟩
       replace ql := ql.kep g4
       replace hgi := O.kep hgi g4
       clear fk
       replace n0 := Kep.all g4 (a := ⟨w.heap.size, 0, none⟩) (v := .int .i32 px) n0
       replace n1 := Kep.all g4 (a := ⟨w.heap.size, 1, none⟩) (v := .int .i32 py) n1
       replace gg := kep_next gg g4
       have zn_w4 : w.heap.size < w4.heap.size := World.block_lt_of_cell? _ _ n0)
    | (refine (O.cand w2.heap.size S3 L _ hgi HOK.out (by omega)).mono ?_; rintro e w5 ⟨c1, rfl, ⟨qc, fc⟩, g5⟩
       replace ql := ql.kep g5
       replace qk := qk.kep g5
       clear fc
       replace n0 := Kep.all g5 (a := ⟨w.heap.size, 0, none⟩) (v := .int .i32 px) n0
       replace n1 := Kep.all g5 (a := ⟨w.heap.size, 1, none⟩) (v := .int .i32 py) n1
       replace gg := kep_next gg g5
       have zn_w5 : w.heap.size < w5.heap.size := World.block_lt_of_cell? _ _ n0))
  have G0 := Lib.hid gg
  have HN0 := Lib.hid n0
  have HN1 := Lib.hid n1
  clear n0 n1
  have HQC := Lib.hid qc
  obtain ⟨bc, cc, rfl⟩ := qc.shape
  clear qc
  obtain ⟨bk, ck, rfl, hk⟩ := qk
  have HA := Lib.hid hk
  obtain ⟨_, _, he, hl⟩ := ql
  injection he with h1 _ h3
  subst h1 h3
  have HL := Lib.hid hl
  clear hk hl gg
  obtain ⟨C, hC⟩ : ∃ C, C = candL L := ⟨_, rfl⟩
  obtain ⟨T, hT⟩ : ∃ T, T = atL L (bktN (colN px) (colN py)) := ⟨_, rfl⟩
  have hlC : C.length ≤ 1600 := by rw [hC]; exact candL_len hm
  have hlT : T.length ≤ 40 := by rw [hT]; exact atL_len hm
  have HM1 : Hid (∀ x ∈ L, conB x.a x.b x.c x.d px py = true → x.k ∈ T) := Lib.hid (fun x hx h => by rw [hT]; exact at_has hx h)
  have HM2 : Hid (∀ (j k : Nat) (p q : Int), T[j]? = some p → T[k]? = some q → j < k → p < q) := Lib.hid (fun j k p q h1 h2 h => at_asc (by rw [← hT]; exact h1) (by rw [← hT]; exact h2) h)
  have HM3 : Hid (∀ p ∈ T, ∀ q ∈ T, p < q → C.contains (p, q) = true) := Lib.hid (fun p hp q hq h => by rw [hC]; exact at_cand (by rw [← hT]; exact hp) (by rw [← hT]; exact hq) h)
  rw [← hC] at HQC ⊢
  rw [← hT] at HA ⊢
  have RC := Lib.hid (fun pa pb => rha C pa pb (by omega))
  clear hC hT
  generalize hnc : C.length = nc at *
  generalize hnt : T.length = nt at *
  generalize hn : L.length = n at *
  have HNT := Lib.hid hnt
  have HN := Lib.hid hn
  clear hnc hnt hn
  go_wp2_with fail
  go_loopw [8, 9, 10] (fun i _ _ wr => ∃ a : Nat, a ≤ n ∧ i = .int .i64 a ∧ Hid (Kep w5.heap.size w5 wr)) (fun i _ _ _ => n - (RowKit.intOf i).toNat)
  case atStart => exact ⟨0, by omega, rfl, Lib.hid (Kep.refl _ _)⟩
  case round =>
    obtain ⟨a, ha, rfl, HK⟩ := hrel
    by_cases hlta : a < n
    · have hb : L[a]? = some (L[a]'(by rw [HN.out]; exact hlta)) := List.getElem?_eq_getElem _
      generalize L[a]'(by rw [HN.out]; exact hlta) = x at hb
      obtain ⟨gl, off, rfl, q⟩ := HL.out a x hb
      have HXM := Lib.hid (HM1.out _ (List.mem_of_getElem? hb))
      obtain ⟨xk, xa, xb, xc, xd⟩ := x
      have gg := HK.out
      have n0 := gg.all HN0.out
      have n1 := gg.all HN1.out
      have x0 : wr.cell? ⟨gl, off + a * 5, none⟩ = some (.int .u32 xk) := gg.all (q 0 _ rfl)
      have x1 : wr.cell? ⟨gl, off + a * 5 + 1, none⟩ = some (.int .i32 xa) := gg.all (q 1 _ rfl)
      have x2 : wr.cell? ⟨gl, off + a * 5 + 2, none⟩ = some (.int .i32 xb) := gg.all (q 2 _ rfl)
      have x3 : wr.cell? ⟨gl, off + a * 5 + 3, none⟩ = some (.int .i32 xc) := gg.all (q 3 _ rfl)
      have x4 : wr.cell? ⟨gl, off + a * 5 + 4, none⟩ = some (.int .i32 xd) := gg.all (q 4 _ rfl)
      have HX0 : Hid (w5.cell? ⟨gl, off + a * 5, none⟩ = some (.int .u32 xk)) := Lib.hid (q 0 _ rfl)
      clear hb q HK
      obtain ⟨z, hz⟩ : ∃ z, conB xa xb xc xd px py = z := ⟨_, rfl⟩
      have V1 := Lib.hid (fun w => kep_calls (rco _ _ _ _ _ _ _ hz w))
      have HZ := Lib.hid hz
      clear hz
      cases z
      · go_wp2_with fail
        refine wp_region_noPanic ?_
        refine wp_region_held_drew (S := (fun w' => w'.cell? ⟨w.heap.size, 0, none⟩ = some (.int .i32 px) ∧ w'.cell? ⟨w.heap.size, 1, none⟩ = some (.int .i32 py) ∧ w'.cell? ⟨gl, off + a * 5, none⟩ = some (.int .u32 xk) ∧ w'.cell? ⟨gl, off + a * 5 + 1, none⟩ = some (.int .i32 xa) ∧ w'.cell? ⟨gl, off + a * 5 + 2, none⟩ = some (.int .i32 xb) ∧ w'.cell? ⟨gl, off + a * 5 + 3, none⟩ = some (.int .i32 xc) ∧ w'.cell? ⟨gl, off + a * 5 + 4, none⟩ = some (.int .i32 xd) ∧ Kep w5.heap.size w5 w')) (by kernel_rfl) (⟨by rw [World.cell?_drew]; exact n0, by rw [World.cell?_drew]; exact n1, by rw [World.cell?_drew]; exact x0, by rw [World.cell?_drew]; exact x1, by rw [World.cell?_drew]; exact x2, by rw [World.cell?_drew]; exact x3, by rw [World.cell?_drew]; exact x4, kep_drew gg⟩) (fun hH => ?_)
        refine wpAnyH_take (i := 0) (oi := { dst := some 32, op := Op.move (Operand.tmp 0), type := _, pos := _, after := _, guard := none }) (v := ?_) rfl (by kernel_rfl) (by kernel_rfl) (by kernel_rfl) (fun _ _ _ h => h) (Or.inl ⟨by rfl, ?_⟩) hH ?_
        rotate_left
        · (intro w hSw; (try dsimp only at hSw); go_simp; (try with_reducible rfl))
        try simp only [Act.put, List.setIfInBounds_toArray, List.set_cons_zero, List.set_cons_succ]
        refine wpAnyH_take (i := 1) (oi := { dst := some 33, op := Op.move (Operand.tmp 8), type := _, pos := _, after := _, guard := none }) (v := ?_) rfl (by kernel_rfl) (by kernel_rfl) (by kernel_rfl) (fun _ _ _ h => h) (Or.inl ⟨by rfl, ?_⟩) hH ?_
        rotate_left
        · (intro w hSw; (try dsimp only at hSw); go_simp; (try with_reducible rfl))
        try simp only [Act.put, List.setIfInBounds_toArray, List.set_cons_zero, List.set_cons_succ]
        refine wpAnyH_take (i := 2) (oi := { dst := some 34, op := Op.indexAddr 22 (Operand.tmp 32) (Operand.tmp 33), type := _, pos := _, after := _, guard := none }) (v := ?_) rfl (by kernel_rfl) (by kernel_rfl) (by kernel_rfl) (fun _ _ _ h => h) (Or.inl ⟨by rfl, ?_⟩) hH ?_
        rotate_left
        · (intro w hSw; (try dsimp only at hSw); go_simp; (try with_reducible rfl))
        try simp only [Act.put, List.setIfInBounds_toArray, List.set_cons_zero, List.set_cons_succ]
        refine wpAnyH_take (i := 3) (oi := { dst := some 35, op := Op.fieldAddr 49 (Operand.tmp 34) 1, type := _, pos := _, after := _, guard := none }) (v := ?_) rfl (by kernel_rfl) (by kernel_rfl) (by kernel_rfl) (fun _ _ _ h => h) (Or.inl ⟨by rfl, ?_⟩) hH ?_
        rotate_left
        · (intro w hSw; (try dsimp only at hSw); go_simp; (try with_reducible rfl))
        try simp only [Act.put, List.setIfInBounds_toArray, List.set_cons_zero, List.set_cons_succ]
        refine wpAnyH_take (i := 4) (oi := { dst := some 36, op := Op.load 47 (Operand.tmp 35), type := _, pos := _, after := _, guard := none }) (v := ?_) rfl (by kernel_rfl) (by kernel_rfl) (by kernel_rfl) (fun _ _ _ h => h) (Or.inl ⟨by rfl, ?_⟩) hH ?_
        rotate_left
        · (intro w hSw; (try dsimp only at hSw); go_simp; (try with_reducible rfl))
        try simp only [Act.put, List.setIfInBounds_toArray, List.set_cons_zero, List.set_cons_succ]
        refine wpAnyH_take (i := 5) (oi := { dst := some 37, op := Op.load 24 (Operand.tmp 3), type := _, pos := _, after := _, guard := none }) (v := ?_) rfl (by kernel_rfl) (by kernel_rfl) (by kernel_rfl) (fun _ _ _ h => h) (Or.inl ⟨by rfl, ?_⟩) hH ?_
        rotate_left
        · (intro w hSw; (try dsimp only at hSw); go_simp; (try with_reducible rfl))
        try simp only [Act.put, List.setIfInBounds_toArray, List.set_cons_zero, List.set_cons_succ]
        refine wpAnyH_ready (rs := [6]) (by kernel_rfl) (by simp) ?_
        refine AllReadyH.cons (o := { dst := some 38, op := Op.call { callee := Callee.value (Operand.func 26), args := #[Operand.tmp 36, Operand.tmp 37], argTypes := #[47, 24] }, type := _, pos := _, after := _, guard := none }) rfl (fun K hK => ?_) AllReadyH.nil
        go_simp
        (with_reducible refine (V1.out _).mono ?_); rintro e v10_6 ⟨rfl, g⟩
        refine hK.out _ _ (by (try dsimp only); (go_split_ands; exact ⟨Kep.all g (by assumption), Kep.all g (by assumption), Kep.all g (by assumption), Kep.all g (by assumption), Kep.all g (by assumption), Kep.all g (by assumption), Kep.all g (by assumption), kep_next (by assumption) g⟩)) (fun hH2 => ?_)
        clear hK K hH; have hH := hH2; clear hH2
        try simp only [Act.put, List.setIfInBounds_toArray, List.set_cons_zero, List.set_cons_succ]
        refine wpAnyH_take (i := 7) (oi := { dst := some 39, op := Op.unOp UnOp.not 4 (Operand.tmp 38), type := _, pos := _, after := _, guard := none }) (v := ?_) rfl (by kernel_rfl) (by kernel_rfl) (by kernel_rfl) (fun _ _ _ h => h) (Or.inl ⟨by rfl, ?_⟩) hH ?_
        rotate_left
        · (intro w hSw; (try dsimp only at hSw); go_simp; (try with_reducible rfl))
        try simp only [Act.put, List.setIfInBounds_toArray, List.set_cons_zero, List.set_cons_succ]
        refine wpAnyH_take (i := 8) (oi := { dst := some 9, op := Op.assign (Operand.tmp 39), type := _, pos := _, after := _, guard := none }) (v := ?_) rfl (by kernel_rfl) (by kernel_rfl) (by kernel_rfl) (fun _ _ _ h => h) (Or.inl ⟨by rfl, ?_⟩) hH ?_
        rotate_left
        · (intro w hSw; (try dsimp only at hSw); go_simp; (try with_reducible rfl))
        try simp only [Act.put, List.setIfInBounds_toArray, List.set_cons_zero, List.set_cons_succ]
        refine wpAnyH_done (by kernel_rfl) ?_ _
        refine NoPanic.normal ?_
        clear n0 n1 x0 x1 x2 x3 x4 gg
        obtain ⟨n0, n1, x0, x1, x2, x3, x4, gg⟩ := hH
        clear n0 n1 x0 x1 x2 x3 x4
        have HK1 := Lib.hid gg
        clear gg
        go_wp2_with fail
        go_loopw [9, 10] (fun f i wr => ∃ k : Nat, k ≤ nt ∧ f = .bool true ∧ i = .int .i64 k ∧ Hid (Kep w5.heap.size w5 wr)) (fun _ i _ => nt - (RowKit.intOf i).toNat)
        case atStart => exact ⟨0, by omega, rfl, rfl, HK1⟩
        case round =>
          obtain ⟨k, hk, rfl, rfl, HK⟩ := hrel
          by_cases hlt : k < nt
          · have gg := HK.out
            go_wp2_with fail
            refine wp_region_noPanic ?_
            refine wp_region_held_drew (S := (fun w' => Kep w5.heap.size w5 w')) (by kernel_rfl) (kep_drew gg) (fun hH => ?_)
            refine wpAnyH_take (i := 0) (oi := { dst := some 46, op := Op.move (Operand.tmp 9), type := _, pos := _, after := _, guard := none }) (v := ?_) rfl (by kernel_rfl) (by kernel_rfl) (by kernel_rfl) (fun _ _ _ h => h) (Or.inl ⟨by rfl, ?_⟩) hH ?_
            rotate_left
            · (intro w hSw; (try dsimp only at hSw); go_simp; (try with_reducible rfl))
            try simp only [Act.put, List.setIfInBounds_toArray, List.set_cons_zero, List.set_cons_succ]
            refine wpAnyH_take (i := 1) (oi := { dst := some 47, op := Op.move (Operand.tmp 46), type := _, pos := _, after := _, guard := none }) (v := ?_) rfl (by kernel_rfl) (by kernel_rfl) (by kernel_rfl) (fun _ _ _ h => h) (Or.inl ⟨by rfl, ?_⟩) hH ?_
            rotate_left
            · (intro w hSw; (try dsimp only at hSw); go_simp; (try with_reducible rfl))
            try simp only [Act.put, List.setIfInBounds_toArray, List.set_cons_zero, List.set_cons_succ]
            refine wpAnyH_take (i := 2) (oi := { dst := some 48, op := Op.move (Operand.tmp 6), type := _, pos := _, after := _, guard := some (1, false) }) (v := undef) rfl (by kernel_rfl) (by kernel_rfl) (by kernel_rfl) (fun _ _ _ h => h) (Or.inr ⟨by rfl, rfl⟩) hH ?_
            try simp only [Act.put, List.setIfInBounds_toArray, List.set_cons_zero, List.set_cons_succ]
            refine wpAnyH_take (i := 3) (oi := { dst := some 49, op := Op.move (Operand.tmp 10), type := _, pos := _, after := _, guard := some (1, false) }) (v := undef) rfl (by kernel_rfl) (by kernel_rfl) (by kernel_rfl) (fun _ _ _ h => h) (Or.inr ⟨by rfl, rfl⟩) hH ?_
            try simp only [Act.put, List.setIfInBounds_toArray, List.set_cons_zero, List.set_cons_succ]
            refine wpAnyH_take (i := 4) (oi := { dst := some 50, op := Op.indexAddr 27 (Operand.tmp 48) (Operand.tmp 49), type := _, pos := _, after := _, guard := some (1, false) }) (v := undef) rfl (by kernel_rfl) (by kernel_rfl) (by kernel_rfl) (fun _ _ _ h => h) (Or.inr ⟨by rfl, rfl⟩) hH ?_
            try simp only [Act.put, List.setIfInBounds_toArray, List.set_cons_zero, List.set_cons_succ]
            refine wpAnyH_take (i := 5) (oi := { dst := some 51, op := Op.load 42 (Operand.tmp 50), type := _, pos := _, after := _, guard := some (1, false) }) (v := undef) rfl (by kernel_rfl) (by kernel_rfl) (by kernel_rfl) (fun _ _ _ h => h) (Or.inr ⟨by rfl, rfl⟩) hH ?_
            try simp only [Act.put, List.setIfInBounds_toArray, List.set_cons_zero, List.set_cons_succ]
            refine wpAnyH_take (i := 6) (oi := { dst := some 52, op := Op.move (Operand.tmp 0), type := _, pos := _, after := _, guard := some (1, false) }) (v := undef) rfl (by kernel_rfl) (by kernel_rfl) (by kernel_rfl) (fun _ _ _ h => h) (Or.inr ⟨by rfl, rfl⟩) hH ?_
            try simp only [Act.put, List.setIfInBounds_toArray, List.set_cons_zero, List.set_cons_succ]
            refine wpAnyH_take (i := 7) (oi := { dst := some 53, op := Op.move (Operand.tmp 8), type := _, pos := _, after := _, guard := some (1, false) }) (v := undef) rfl (by kernel_rfl) (by kernel_rfl) (by kernel_rfl) (fun _ _ _ h => h) (Or.inr ⟨by rfl, rfl⟩) hH ?_
            try simp only [Act.put, List.setIfInBounds_toArray, List.set_cons_zero, List.set_cons_succ]
            refine wpAnyH_take (i := 8) (oi := { dst := some 54, op := Op.indexAddr 22 (Operand.tmp 52) (Operand.tmp 53), type := _, pos := _, after := _, guard := some (1, false) }) (v := undef) rfl (by kernel_rfl) (by kernel_rfl) (by kernel_rfl) (fun _ _ _ h => h) (Or.inr ⟨by rfl, rfl⟩) hH ?_
            try simp only [Act.put, List.setIfInBounds_toArray, List.set_cons_zero, List.set_cons_succ]
            refine wpAnyH_take (i := 9) (oi := { dst := some 55, op := Op.fieldAddr 49 (Operand.tmp 54) 0, type := _, pos := _, after := _, guard := some (1, false) }) (v := undef) rfl (by kernel_rfl) (by kernel_rfl) (by kernel_rfl) (fun _ _ _ h => h) (Or.inr ⟨by rfl, rfl⟩) hH ?_
            try simp only [Act.put, List.setIfInBounds_toArray, List.set_cons_zero, List.set_cons_succ]
            refine wpAnyH_take (i := 10) (oi := { dst := some 56, op := Op.load 42 (Operand.tmp 55), type := _, pos := _, after := _, guard := some (1, false) }) (v := undef) rfl (by kernel_rfl) (by kernel_rfl) (by kernel_rfl) (fun _ _ _ h => h) (Or.inr ⟨by rfl, rfl⟩) hH ?_
            try simp only [Act.put, List.setIfInBounds_toArray, List.set_cons_zero, List.set_cons_succ]
            refine wpAnyH_take (i := 11) (oi := { dst := some 57, op := Op.binOp BinOp.eql 42 (Operand.tmp 51) (Operand.tmp 56) 42, type := _, pos := _, after := _, guard := some (1, false) }) (v := undef) rfl (by kernel_rfl) (by kernel_rfl) (by kernel_rfl) (fun _ _ _ h => h) (Or.inr ⟨by rfl, rfl⟩) hH ?_
            try simp only [Act.put, List.setIfInBounds_toArray, List.set_cons_zero, List.set_cons_succ]
            refine wpAnyH_take (i := 12) (oi := { dst := some 58, op := Op.pick (Operand.tmp 47) (Operand.const (Value.bool true)) (Operand.tmp 57), type := _, pos := _, after := _, guard := none }) (v := ?_) rfl (by kernel_rfl) (by kernel_rfl) (by kernel_rfl) (fun _ _ _ h => h) (Or.inl ⟨by rfl, ?_⟩) hH ?_
            rotate_left
            · (intro w hSw; (try dsimp only at hSw); go_simp; (try with_reducible rfl))
            try simp only [Act.put, List.setIfInBounds_toArray, List.set_cons_zero, List.set_cons_succ]
            refine wpAnyH_take (i := 13) (oi := { dst := some 9, op := Op.assign (Operand.tmp 58), type := _, pos := _, after := _, guard := none }) (v := ?_) rfl (by kernel_rfl) (by kernel_rfl) (by kernel_rfl) (fun _ _ _ h => h) (Or.inl ⟨by rfl, ?_⟩) hH ?_
            rotate_left
            · (intro w hSw; (try dsimp only at hSw); go_simp; (try with_reducible rfl))
            try simp only [Act.put, List.setIfInBounds_toArray, List.set_cons_zero, List.set_cons_succ]
            refine wpAnyH_done (by kernel_rfl) ?_ _
            refine NoPanic.normal ?_
            clear  gg
            have gg := hH
            go_wp2_with fail
            go_roundw
            case rel => exact ⟨k + 1, by omega, rfl, by go_num, Lib.hid gg⟩
            case measure => simp [RowKit.intOf]; omega
          · go_wp2_with fail
            go_roundw
            case rel => exact ⟨a + 1, by omega, by go_num, HK⟩
            case measure => simp [RowKit.intOf]; omega
      · have HXT := Lib.hid (HXM.out HZ.out)
        go_wp2_with fail
        refine wp_region_noPanic ?_
        refine wp_region_held_drew (S := (fun w' => w'.cell? ⟨w.heap.size, 0, none⟩ = some (.int .i32 px) ∧ w'.cell? ⟨w.heap.size, 1, none⟩ = some (.int .i32 py) ∧ w'.cell? ⟨gl, off + a * 5, none⟩ = some (.int .u32 xk) ∧ w'.cell? ⟨gl, off + a * 5 + 1, none⟩ = some (.int .i32 xa) ∧ w'.cell? ⟨gl, off + a * 5 + 2, none⟩ = some (.int .i32 xb) ∧ w'.cell? ⟨gl, off + a * 5 + 3, none⟩ = some (.int .i32 xc) ∧ w'.cell? ⟨gl, off + a * 5 + 4, none⟩ = some (.int .i32 xd) ∧ Kep w5.heap.size w5 w')) (by kernel_rfl) (⟨by rw [World.cell?_drew]; exact n0, by rw [World.cell?_drew]; exact n1, by rw [World.cell?_drew]; exact x0, by rw [World.cell?_drew]; exact x1, by rw [World.cell?_drew]; exact x2, by rw [World.cell?_drew]; exact x3, by rw [World.cell?_drew]; exact x4, kep_drew gg⟩) (fun hH => ?_)
        refine wpAnyH_take (i := 0) (oi := { dst := some 32, op := Op.move (Operand.tmp 0), type := _, pos := _, after := _, guard := none }) (v := ?_) rfl (by kernel_rfl) (by kernel_rfl) (by kernel_rfl) (fun _ _ _ h => h) (Or.inl ⟨by rfl, ?_⟩) hH ?_
        rotate_left
        · (intro w hSw; (try dsimp only at hSw); go_simp; (try with_reducible rfl))
        try simp only [Act.put, List.setIfInBounds_toArray, List.set_cons_zero, List.set_cons_succ]
        refine wpAnyH_take (i := 1) (oi := { dst := some 33, op := Op.move (Operand.tmp 8), type := _, pos := _, after := _, guard := none }) (v := ?_) rfl (by kernel_rfl) (by kernel_rfl) (by kernel_rfl) (fun _ _ _ h => h) (Or.inl ⟨by rfl, ?_⟩) hH ?_
        rotate_left
        · (intro w hSw; (try dsimp only at hSw); go_simp; (try with_reducible rfl))
        try simp only [Act.put, List.setIfInBounds_toArray, List.set_cons_zero, List.set_cons_succ]
        refine wpAnyH_take (i := 2) (oi := { dst := some 34, op := Op.indexAddr 22 (Operand.tmp 32) (Operand.tmp 33), type := _, pos := _, after := _, guard := none }) (v := ?_) rfl (by kernel_rfl) (by kernel_rfl) (by kernel_rfl) (fun _ _ _ h => h) (Or.inl ⟨by rfl, ?_⟩) hH ?_
        rotate_left
        · (intro w hSw; (try dsimp only at hSw); go_simp; (try with_reducible rfl))
        try simp only [Act.put, List.setIfInBounds_toArray, List.set_cons_zero, List.set_cons_succ]
        refine wpAnyH_take (i := 3) (oi := { dst := some 35, op := Op.fieldAddr 49 (Operand.tmp 34) 1, type := _, pos := _, after := _, guard := none }) (v := ?_) rfl (by kernel_rfl) (by kernel_rfl) (by kernel_rfl) (fun _ _ _ h => h) (Or.inl ⟨by rfl, ?_⟩) hH ?_
        rotate_left
        · (intro w hSw; (try dsimp only at hSw); go_simp; (try with_reducible rfl))
        try simp only [Act.put, List.setIfInBounds_toArray, List.set_cons_zero, List.set_cons_succ]
        refine wpAnyH_take (i := 4) (oi := { dst := some 36, op := Op.load 47 (Operand.tmp 35), type := _, pos := _, after := _, guard := none }) (v := ?_) rfl (by kernel_rfl) (by kernel_rfl) (by kernel_rfl) (fun _ _ _ h => h) (Or.inl ⟨by rfl, ?_⟩) hH ?_
        rotate_left
        · (intro w hSw; (try dsimp only at hSw); go_simp; (try with_reducible rfl))
        try simp only [Act.put, List.setIfInBounds_toArray, List.set_cons_zero, List.set_cons_succ]
        refine wpAnyH_take (i := 5) (oi := { dst := some 37, op := Op.load 24 (Operand.tmp 3), type := _, pos := _, after := _, guard := none }) (v := ?_) rfl (by kernel_rfl) (by kernel_rfl) (by kernel_rfl) (fun _ _ _ h => h) (Or.inl ⟨by rfl, ?_⟩) hH ?_
        rotate_left
        · (intro w hSw; (try dsimp only at hSw); go_simp; (try with_reducible rfl))
        try simp only [Act.put, List.setIfInBounds_toArray, List.set_cons_zero, List.set_cons_succ]
        refine wpAnyH_ready (rs := [6]) (by kernel_rfl) (by simp) ?_
        refine AllReadyH.cons (o := { dst := some 38, op := Op.call { callee := Callee.value (Operand.func 26), args := #[Operand.tmp 36, Operand.tmp 37], argTypes := #[47, 24] }, type := _, pos := _, after := _, guard := none }) rfl (fun K hK => ?_) AllReadyH.nil
        go_simp
        (with_reducible refine (V1.out _).mono ?_); rintro e v10_6 ⟨rfl, g⟩
        refine hK.out _ _ (by (try dsimp only); (go_split_ands; exact ⟨Kep.all g (by assumption), Kep.all g (by assumption), Kep.all g (by assumption), Kep.all g (by assumption), Kep.all g (by assumption), Kep.all g (by assumption), Kep.all g (by assumption), kep_next (by assumption) g⟩)) (fun hH2 => ?_)
        clear hK K hH; have hH := hH2; clear hH2
        try simp only [Act.put, List.setIfInBounds_toArray, List.set_cons_zero, List.set_cons_succ]
        refine wpAnyH_take (i := 7) (oi := { dst := some 39, op := Op.unOp UnOp.not 4 (Operand.tmp 38), type := _, pos := _, after := _, guard := none }) (v := ?_) rfl (by kernel_rfl) (by kernel_rfl) (by kernel_rfl) (fun _ _ _ h => h) (Or.inl ⟨by rfl, ?_⟩) hH ?_
        rotate_left
        · (intro w hSw; (try dsimp only at hSw); go_simp; (try with_reducible rfl))
        try simp only [Act.put, List.setIfInBounds_toArray, List.set_cons_zero, List.set_cons_succ]
        refine wpAnyH_take (i := 8) (oi := { dst := some 9, op := Op.assign (Operand.tmp 39), type := _, pos := _, after := _, guard := none }) (v := ?_) rfl (by kernel_rfl) (by kernel_rfl) (by kernel_rfl) (fun _ _ _ h => h) (Or.inl ⟨by rfl, ?_⟩) hH ?_
        rotate_left
        · (intro w hSw; (try dsimp only at hSw); go_simp; (try with_reducible rfl))
        try simp only [Act.put, List.setIfInBounds_toArray, List.set_cons_zero, List.set_cons_succ]
        refine wpAnyH_done (by kernel_rfl) ?_ _
        refine NoPanic.normal ?_
        clear n0 n1 x0 x1 x2 x3 x4 gg
        obtain ⟨n0, n1, x0, x1, x2, x3, x4, gg⟩ := hH
        clear n0 n1 x0 x1 x2 x3 x4
        have HK1 := Lib.hid gg
        clear gg
        go_wp2_with fail
        go_loopw [9, 10] (fun f i wr => ∃ (k : Nat) (z : Bool), k ≤ nt ∧ f = .bool z ∧ i = .int .i64 k ∧ Hid (z = (T.take k).any (fun t => t == xk)) ∧ Hid (Kep w5.heap.size w5 wr)) (fun _ i _ => nt - (RowKit.intOf i).toNat)
        case atStart => exact ⟨0, false, by omega, rfl, rfl, Lib.hid rfl, HK1⟩
        case round =>
          obtain ⟨k, z, hk, rfl, rfl, HZ2, HK⟩ := hrel
          by_cases hlt : k < nt
          · have gg := HK.out
            have hb : T[k]? = some (T[k]'(by rw [HNT.out]; exact hlt)) := List.getElem?_eq_getElem _
            generalize T[k]'(by rw [HNT.out]; exact hlt) = tk at hb
            have HS : Hid ((T.take (k + 1)).any (fun t => t == xk) = (z || (tk == xk))) := Lib.hid (by rw [any_succ hb, ← HZ2.out])
            obtain ⟨gk, ok, rfl, q⟩ := HA.out k tk hb
            have t0 : wr.cell? ⟨gk, ok + k, none⟩ = some (.int .u32 tk) := by have := gg.all (q 0 _ rfl); rwa [Nat.mul_one] at this
            have x0 := gg.all HX0.out
            clear hb q HZ2
            cases z
            · by_cases hl : tk = xk
              · have HS2 : Hid ((T.take (k + 1)).any (fun t => t == xk) = true) := Lib.hid (by rw [HS.out, hl]; simp)
                clear HS
                rw [hl] at t0
                have q1 : (xk == xk) = true := by simp
                clear hl
                go_wp2_with fail
                refine wp_region_noPanic ?_
                refine wp_region_held_drew (S := (fun w' => w'.cell? ⟨gl, off + a * 5, none⟩ = some (.int .u32 xk) ∧ w'.cell? ⟨gk, ok + k, none⟩ = some (.int .u32 xk) ∧ Kep w5.heap.size w5 w')) (by kernel_rfl) (⟨by rw [World.cell?_drew]; exact x0, by rw [World.cell?_drew]; exact t0, kep_drew gg⟩) (fun hH => ?_)
                refine wpAnyH_take (i := 0) (oi := { dst := some 46, op := Op.move (Operand.tmp 9), type := _, pos := _, after := _, guard := none }) (v := ?_) rfl (by kernel_rfl) (by kernel_rfl) (by kernel_rfl) (fun _ _ _ h => h) (Or.inl ⟨by rfl, ?_⟩) hH ?_
                rotate_left
                · (intro w hSw; (try dsimp only at hSw); go_simp; (try with_reducible rfl))
                try simp only [Act.put, List.setIfInBounds_toArray, List.set_cons_zero, List.set_cons_succ]
                refine wpAnyH_take (i := 1) (oi := { dst := some 47, op := Op.move (Operand.tmp 46), type := _, pos := _, after := _, guard := none }) (v := ?_) rfl (by kernel_rfl) (by kernel_rfl) (by kernel_rfl) (fun _ _ _ h => h) (Or.inl ⟨by rfl, ?_⟩) hH ?_
                rotate_left
                · (intro w hSw; (try dsimp only at hSw); go_simp; (try with_reducible rfl))
                try simp only [Act.put, List.setIfInBounds_toArray, List.set_cons_zero, List.set_cons_succ]
                refine wpAnyH_take (i := 2) (oi := { dst := some 48, op := Op.move (Operand.tmp 6), type := _, pos := _, after := _, guard := some (1, false) }) (v := ?_) rfl (by kernel_rfl) (by kernel_rfl) (by kernel_rfl) (fun _ _ _ h => h) (Or.inl ⟨by rfl, ?_⟩) hH ?_
                rotate_left
                · (intro w hSw; (try dsimp only at hSw); go_simp; (try with_reducible rfl))
                try simp only [Act.put, List.setIfInBounds_toArray, List.set_cons_zero, List.set_cons_succ]
                refine wpAnyH_take (i := 3) (oi := { dst := some 49, op := Op.move (Operand.tmp 10), type := _, pos := _, after := _, guard := some (1, false) }) (v := ?_) rfl (by kernel_rfl) (by kernel_rfl) (by kernel_rfl) (fun _ _ _ h => h) (Or.inl ⟨by rfl, ?_⟩) hH ?_
                rotate_left
                · (intro w hSw; (try dsimp only at hSw); go_simp; (try with_reducible rfl))
                try simp only [Act.put, List.setIfInBounds_toArray, List.set_cons_zero, List.set_cons_succ]
                refine wpAnyH_take (i := 4) (oi := { dst := some 50, op := Op.indexAddr 27 (Operand.tmp 48) (Operand.tmp 49), type := _, pos := _, after := _, guard := some (1, false) }) (v := ?_) rfl (by kernel_rfl) (by kernel_rfl) (by kernel_rfl) (fun _ _ _ h => h) (Or.inl ⟨by rfl, ?_⟩) hH ?_
                rotate_left
                · (intro w hSw; (try dsimp only at hSw); go_simp; (try with_reducible rfl))
                try simp only [Act.put, List.setIfInBounds_toArray, List.set_cons_zero, List.set_cons_succ]
                refine wpAnyH_take (i := 5) (oi := { dst := some 51, op := Op.load 42 (Operand.tmp 50), type := _, pos := _, after := _, guard := some (1, false) }) (v := ?_) rfl (by kernel_rfl) (by kernel_rfl) (by kernel_rfl) (fun _ _ _ h => h) (Or.inl ⟨by rfl, ?_⟩) hH ?_
                rotate_left
                · (intro w hSw; (try dsimp only at hSw); go_simp; (try with_reducible rfl))
                try simp only [Act.put, List.setIfInBounds_toArray, List.set_cons_zero, List.set_cons_succ]
                refine wpAnyH_take (i := 6) (oi := { dst := some 52, op := Op.move (Operand.tmp 0), type := _, pos := _, after := _, guard := some (1, false) }) (v := ?_) rfl (by kernel_rfl) (by kernel_rfl) (by kernel_rfl) (fun _ _ _ h => h) (Or.inl ⟨by rfl, ?_⟩) hH ?_
                rotate_left
                · (intro w hSw; (try dsimp only at hSw); go_simp; (try with_reducible rfl))
                try simp only [Act.put, List.setIfInBounds_toArray, List.set_cons_zero, List.set_cons_succ]
                refine wpAnyH_take (i := 7) (oi := { dst := some 53, op := Op.move (Operand.tmp 8), type := _, pos := _, after := _, guard := some (1, false) }) (v := ?_) rfl (by kernel_rfl) (by kernel_rfl) (by kernel_rfl) (fun _ _ _ h => h) (Or.inl ⟨by rfl, ?_⟩) hH ?_
                rotate_left
                · (intro w hSw; (try dsimp only at hSw); go_simp; (try with_reducible rfl))
                try simp only [Act.put, List.setIfInBounds_toArray, List.set_cons_zero, List.set_cons_succ]
                refine wpAnyH_take (i := 8) (oi := { dst := some 54, op := Op.indexAddr 22 (Operand.tmp 52) (Operand.tmp 53), type := _, pos := _, after := _, guard := some (1, false) }) (v := ?_) rfl (by kernel_rfl) (by kernel_rfl) (by kernel_rfl) (fun _ _ _ h => h) (Or.inl ⟨by rfl, ?_⟩) hH ?_
                rotate_left
                · (intro w hSw; (try dsimp only at hSw); go_simp; (try with_reducible rfl))
                try simp only [Act.put, List.setIfInBounds_toArray, List.set_cons_zero, List.set_cons_succ]
                refine wpAnyH_take (i := 9) (oi := { dst := some 55, op := Op.fieldAddr 49 (Operand.tmp 54) 0, type := _, pos := _, after := _, guard := some (1, false) }) (v := ?_) rfl (by kernel_rfl) (by kernel_rfl) (by kernel_rfl) (fun _ _ _ h => h) (Or.inl ⟨by rfl, ?_⟩) hH ?_
                rotate_left
                · (intro w hSw; (try dsimp only at hSw); go_simp; (try with_reducible rfl))
                try simp only [Act.put, List.setIfInBounds_toArray, List.set_cons_zero, List.set_cons_succ]
                refine wpAnyH_take (i := 10) (oi := { dst := some 56, op := Op.load 42 (Operand.tmp 55), type := _, pos := _, after := _, guard := some (1, false) }) (v := ?_) rfl (by kernel_rfl) (by kernel_rfl) (by kernel_rfl) (fun _ _ _ h => h) (Or.inl ⟨by rfl, ?_⟩) hH ?_
                rotate_left
                · (intro w hSw; (try dsimp only at hSw); go_simp; (try with_reducible rfl))
                try simp only [Act.put, List.setIfInBounds_toArray, List.set_cons_zero, List.set_cons_succ]
                refine wpAnyH_take (i := 11) (oi := { dst := some 57, op := Op.binOp BinOp.eql 42 (Operand.tmp 51) (Operand.tmp 56) 42, type := _, pos := _, after := _, guard := some (1, false) }) (v := ?_) rfl (by kernel_rfl) (by kernel_rfl) (by kernel_rfl) (fun _ _ _ h => h) (Or.inl ⟨by rfl, ?_⟩) hH ?_
                rotate_left
                · (intro w hSw; (try dsimp only at hSw); go_simp; (try with_reducible rfl))
                try simp only [Act.put, List.setIfInBounds_toArray, List.set_cons_zero, List.set_cons_succ]
                refine wpAnyH_take (i := 12) (oi := { dst := some 58, op := Op.pick (Operand.tmp 47) (Operand.const (Value.bool true)) (Operand.tmp 57), type := _, pos := _, after := _, guard := none }) (v := ?_) rfl (by kernel_rfl) (by kernel_rfl) (by kernel_rfl) (fun _ _ _ h => h) (Or.inl ⟨by rfl, ?_⟩) hH ?_
                rotate_left
                · (intro w hSw; (try dsimp only at hSw); go_simp; (try with_reducible rfl))
                try simp only [Act.put, List.setIfInBounds_toArray, List.set_cons_zero, List.set_cons_succ]
                refine wpAnyH_take (i := 13) (oi := { dst := some 9, op := Op.assign (Operand.tmp 58), type := _, pos := _, after := _, guard := none }) (v := ?_) rfl (by kernel_rfl) (by kernel_rfl) (by kernel_rfl) (fun _ _ _ h => h) (Or.inl ⟨by rfl, ?_⟩) hH ?_
                rotate_left
                · (intro w hSw; (try dsimp only at hSw); go_simp; (try with_reducible rfl))
                try simp only [Act.put, List.setIfInBounds_toArray, List.set_cons_zero, List.set_cons_succ]
                refine wpAnyH_done (by kernel_rfl) ?_ _
                refine NoPanic.normal ?_
                clear x0 t0 gg
                obtain ⟨x0, t0, gg⟩ := hH
                go_wp2_with fail
                go_roundw
                case rel => exact ⟨k + 1, true, by omega, rfl, by go_num, Lib.hid HS2.out.symm, Lib.hid gg⟩
                case measure => simp [RowKit.intOf]; omega
              · have q1 : (tk == xk) = false := by simp [hl]
                have HS2 : Hid ((T.take (k + 1)).any (fun t => t == xk) = false) := Lib.hid (by rw [HS.out, q1]; rfl)
                clear HS hl
                go_wp2_with fail
                refine wp_region_noPanic ?_
                refine wp_region_held_drew (S := (fun w' => w'.cell? ⟨gl, off + a * 5, none⟩ = some (.int .u32 xk) ∧ w'.cell? ⟨gk, ok + k, none⟩ = some (.int .u32 tk) ∧ Kep w5.heap.size w5 w')) (by kernel_rfl) (⟨by rw [World.cell?_drew]; exact x0, by rw [World.cell?_drew]; exact t0, kep_drew gg⟩) (fun hH => ?_)
                refine wpAnyH_take (i := 0) (oi := { dst := some 46, op := Op.move (Operand.tmp 9), type := _, pos := _, after := _, guard := none }) (v := ?_) rfl (by kernel_rfl) (by kernel_rfl) (by kernel_rfl) (fun _ _ _ h => h) (Or.inl ⟨by rfl, ?_⟩) hH ?_
                rotate_left
                · (intro w hSw; (try dsimp only at hSw); go_simp; (try with_reducible rfl))
                try simp only [Act.put, List.setIfInBounds_toArray, List.set_cons_zero, List.set_cons_succ]
                refine wpAnyH_take (i := 1) (oi := { dst := some 47, op := Op.move (Operand.tmp 46), type := _, pos := _, after := _, guard := none }) (v := ?_) rfl (by kernel_rfl) (by kernel_rfl) (by kernel_rfl) (fun _ _ _ h => h) (Or.inl ⟨by rfl, ?_⟩) hH ?_
                rotate_left
                · (intro w hSw; (try dsimp only at hSw); go_simp; (try with_reducible rfl))
                try simp only [Act.put, List.setIfInBounds_toArray, List.set_cons_zero, List.set_cons_succ]
                refine wpAnyH_take (i := 2) (oi := { dst := some 48, op := Op.move (Operand.tmp 6), type := _, pos := _, after := _, guard := some (1, false) }) (v := ?_) rfl (by kernel_rfl) (by kernel_rfl) (by kernel_rfl) (fun _ _ _ h => h) (Or.inl ⟨by rfl, ?_⟩) hH ?_
                rotate_left
                · (intro w hSw; (try dsimp only at hSw); go_simp; (try with_reducible rfl))
                try simp only [Act.put, List.setIfInBounds_toArray, List.set_cons_zero, List.set_cons_succ]
                refine wpAnyH_take (i := 3) (oi := { dst := some 49, op := Op.move (Operand.tmp 10), type := _, pos := _, after := _, guard := some (1, false) }) (v := ?_) rfl (by kernel_rfl) (by kernel_rfl) (by kernel_rfl) (fun _ _ _ h => h) (Or.inl ⟨by rfl, ?_⟩) hH ?_
                rotate_left
                · (intro w hSw; (try dsimp only at hSw); go_simp; (try with_reducible rfl))
                try simp only [Act.put, List.setIfInBounds_toArray, List.set_cons_zero, List.set_cons_succ]
                refine wpAnyH_take (i := 4) (oi := { dst := some 50, op := Op.indexAddr 27 (Operand.tmp 48) (Operand.tmp 49), type := _, pos := _, after := _, guard := some (1, false) }) (v := ?_) rfl (by kernel_rfl) (by kernel_rfl) (by kernel_rfl) (fun _ _ _ h => h) (Or.inl ⟨by rfl, ?_⟩) hH ?_
                rotate_left
                · (intro w hSw; (try dsimp only at hSw); go_simp; (try with_reducible rfl))
                try simp only [Act.put, List.setIfInBounds_toArray, List.set_cons_zero, List.set_cons_succ]
                refine wpAnyH_take (i := 5) (oi := { dst := some 51, op := Op.load 42 (Operand.tmp 50), type := _, pos := _, after := _, guard := some (1, false) }) (v := ?_) rfl (by kernel_rfl) (by kernel_rfl) (by kernel_rfl) (fun _ _ _ h => h) (Or.inl ⟨by rfl, ?_⟩) hH ?_
                rotate_left
                · (intro w hSw; (try dsimp only at hSw); go_simp; (try with_reducible rfl))
                try simp only [Act.put, List.setIfInBounds_toArray, List.set_cons_zero, List.set_cons_succ]
                refine wpAnyH_take (i := 6) (oi := { dst := some 52, op := Op.move (Operand.tmp 0), type := _, pos := _, after := _, guard := some (1, false) }) (v := ?_) rfl (by kernel_rfl) (by kernel_rfl) (by kernel_rfl) (fun _ _ _ h => h) (Or.inl ⟨by rfl, ?_⟩) hH ?_
                rotate_left
                · (intro w hSw; (try dsimp only at hSw); go_simp; (try with_reducible rfl))
                try simp only [Act.put, List.setIfInBounds_toArray, List.set_cons_zero, List.set_cons_succ]
                refine wpAnyH_take (i := 7) (oi := { dst := some 53, op := Op.move (Operand.tmp 8), type := _, pos := _, after := _, guard := some (1, false) }) (v := ?_) rfl (by kernel_rfl) (by kernel_rfl) (by kernel_rfl) (fun _ _ _ h => h) (Or.inl ⟨by rfl, ?_⟩) hH ?_
                rotate_left
                · (intro w hSw; (try dsimp only at hSw); go_simp; (try with_reducible rfl))
                try simp only [Act.put, List.setIfInBounds_toArray, List.set_cons_zero, List.set_cons_succ]
                refine wpAnyH_take (i := 8) (oi := { dst := some 54, op := Op.indexAddr 22 (Operand.tmp 52) (Operand.tmp 53), type := _, pos := _, after := _, guard := some (1, false) }) (v := ?_) rfl (by kernel_rfl) (by kernel_rfl) (by kernel_rfl) (fun _ _ _ h => h) (Or.inl ⟨by rfl, ?_⟩) hH ?_
                rotate_left
                · (intro w hSw; (try dsimp only at hSw); go_simp; (try with_reducible rfl))
                try simp only [Act.put, List.setIfInBounds_toArray, List.set_cons_zero, List.set_cons_succ]
                refine wpAnyH_take (i := 9) (oi := { dst := some 55, op := Op.fieldAddr 49 (Operand.tmp 54) 0, type := _, pos := _, after := _, guard := some (1, false) }) (v := ?_) rfl (by kernel_rfl) (by kernel_rfl) (by kernel_rfl) (fun _ _ _ h => h) (Or.inl ⟨by rfl, ?_⟩) hH ?_
                rotate_left
                · (intro w hSw; (try dsimp only at hSw); go_simp; (try with_reducible rfl))
                try simp only [Act.put, List.setIfInBounds_toArray, List.set_cons_zero, List.set_cons_succ]
                refine wpAnyH_take (i := 10) (oi := { dst := some 56, op := Op.load 42 (Operand.tmp 55), type := _, pos := _, after := _, guard := some (1, false) }) (v := ?_) rfl (by kernel_rfl) (by kernel_rfl) (by kernel_rfl) (fun _ _ _ h => h) (Or.inl ⟨by rfl, ?_⟩) hH ?_
                rotate_left
                · (intro w hSw; (try dsimp only at hSw); go_simp; (try with_reducible rfl))
                try simp only [Act.put, List.setIfInBounds_toArray, List.set_cons_zero, List.set_cons_succ]
                refine wpAnyH_take (i := 11) (oi := { dst := some 57, op := Op.binOp BinOp.eql 42 (Operand.tmp 51) (Operand.tmp 56) 42, type := _, pos := _, after := _, guard := some (1, false) }) (v := ?_) rfl (by kernel_rfl) (by kernel_rfl) (by kernel_rfl) (fun _ _ _ h => h) (Or.inl ⟨by rfl, ?_⟩) hH ?_
                rotate_left
                · (intro w hSw; (try dsimp only at hSw); go_simp; (try with_reducible rfl))
                try simp only [Act.put, List.setIfInBounds_toArray, List.set_cons_zero, List.set_cons_succ]
                refine wpAnyH_take (i := 12) (oi := { dst := some 58, op := Op.pick (Operand.tmp 47) (Operand.const (Value.bool true)) (Operand.tmp 57), type := _, pos := _, after := _, guard := none }) (v := ?_) rfl (by kernel_rfl) (by kernel_rfl) (by kernel_rfl) (fun _ _ _ h => h) (Or.inl ⟨by rfl, ?_⟩) hH ?_
                rotate_left
                · (intro w hSw; (try dsimp only at hSw); go_simp; (try with_reducible rfl))
                try simp only [Act.put, List.setIfInBounds_toArray, List.set_cons_zero, List.set_cons_succ]
                refine wpAnyH_take (i := 13) (oi := { dst := some 9, op := Op.assign (Operand.tmp 58), type := _, pos := _, after := _, guard := none }) (v := ?_) rfl (by kernel_rfl) (by kernel_rfl) (by kernel_rfl) (fun _ _ _ h => h) (Or.inl ⟨by rfl, ?_⟩) hH ?_
                rotate_left
                · (intro w hSw; (try dsimp only at hSw); go_simp; (try with_reducible rfl))
                try simp only [Act.put, List.setIfInBounds_toArray, List.set_cons_zero, List.set_cons_succ]
                refine wpAnyH_done (by kernel_rfl) ?_ _
                refine NoPanic.normal ?_
                clear x0 t0 gg
                obtain ⟨x0, t0, gg⟩ := hH
                go_wp2_with fail
                go_roundw
                case rel => exact ⟨k + 1, false, by omega, rfl, by go_num, Lib.hid HS2.out.symm, Lib.hid gg⟩
                case measure => simp [RowKit.intOf]; omega
            · have HS2 : Hid ((T.take (k + 1)).any (fun t => t == xk) = true) := Lib.hid (by rw [HS.out]; rfl)
              clear HS
              go_wp2_with fail
              refine wp_region_noPanic ?_
              refine wp_region_held_drew (S := (fun w' => Kep w5.heap.size w5 w')) (by kernel_rfl) (kep_drew gg) (fun hH => ?_)
              refine wpAnyH_take (i := 0) (oi := { dst := some 46, op := Op.move (Operand.tmp 9), type := _, pos := _, after := _, guard := none }) (v := ?_) rfl (by kernel_rfl) (by kernel_rfl) (by kernel_rfl) (fun _ _ _ h => h) (Or.inl ⟨by rfl, ?_⟩) hH ?_
              rotate_left
              · (intro w hSw; (try dsimp only at hSw); go_simp; (try with_reducible rfl))
              try simp only [Act.put, List.setIfInBounds_toArray, List.set_cons_zero, List.set_cons_succ]
              refine wpAnyH_take (i := 1) (oi := { dst := some 47, op := Op.move (Operand.tmp 46), type := _, pos := _, after := _, guard := none }) (v := ?_) rfl (by kernel_rfl) (by kernel_rfl) (by kernel_rfl) (fun _ _ _ h => h) (Or.inl ⟨by rfl, ?_⟩) hH ?_
              rotate_left
              · (intro w hSw; (try dsimp only at hSw); go_simp; (try with_reducible rfl))
              try simp only [Act.put, List.setIfInBounds_toArray, List.set_cons_zero, List.set_cons_succ]
              refine wpAnyH_take (i := 2) (oi := { dst := some 48, op := Op.move (Operand.tmp 6), type := _, pos := _, after := _, guard := some (1, false) }) (v := undef) rfl (by kernel_rfl) (by kernel_rfl) (by kernel_rfl) (fun _ _ _ h => h) (Or.inr ⟨by rfl, rfl⟩) hH ?_
              try simp only [Act.put, List.setIfInBounds_toArray, List.set_cons_zero, List.set_cons_succ]
              refine wpAnyH_take (i := 3) (oi := { dst := some 49, op := Op.move (Operand.tmp 10), type := _, pos := _, after := _, guard := some (1, false) }) (v := undef) rfl (by kernel_rfl) (by kernel_rfl) (by kernel_rfl) (fun _ _ _ h => h) (Or.inr ⟨by rfl, rfl⟩) hH ?_
              try simp only [Act.put, List.setIfInBounds_toArray, List.set_cons_zero, List.set_cons_succ]
              refine wpAnyH_take (i := 4) (oi := { dst := some 50, op := Op.indexAddr 27 (Operand.tmp 48) (Operand.tmp 49), type := _, pos := _, after := _, guard := some (1, false) }) (v := undef) rfl (by kernel_rfl) (by kernel_rfl) (by kernel_rfl) (fun _ _ _ h => h) (Or.inr ⟨by rfl, rfl⟩) hH ?_
              try simp only [Act.put, List.setIfInBounds_toArray, List.set_cons_zero, List.set_cons_succ]
              refine wpAnyH_take (i := 5) (oi := { dst := some 51, op := Op.load 42 (Operand.tmp 50), type := _, pos := _, after := _, guard := some (1, false) }) (v := undef) rfl (by kernel_rfl) (by kernel_rfl) (by kernel_rfl) (fun _ _ _ h => h) (Or.inr ⟨by rfl, rfl⟩) hH ?_
              try simp only [Act.put, List.setIfInBounds_toArray, List.set_cons_zero, List.set_cons_succ]
              refine wpAnyH_take (i := 6) (oi := { dst := some 52, op := Op.move (Operand.tmp 0), type := _, pos := _, after := _, guard := some (1, false) }) (v := undef) rfl (by kernel_rfl) (by kernel_rfl) (by kernel_rfl) (fun _ _ _ h => h) (Or.inr ⟨by rfl, rfl⟩) hH ?_
              try simp only [Act.put, List.setIfInBounds_toArray, List.set_cons_zero, List.set_cons_succ]
              refine wpAnyH_take (i := 7) (oi := { dst := some 53, op := Op.move (Operand.tmp 8), type := _, pos := _, after := _, guard := some (1, false) }) (v := undef) rfl (by kernel_rfl) (by kernel_rfl) (by kernel_rfl) (fun _ _ _ h => h) (Or.inr ⟨by rfl, rfl⟩) hH ?_
              try simp only [Act.put, List.setIfInBounds_toArray, List.set_cons_zero, List.set_cons_succ]
              refine wpAnyH_take (i := 8) (oi := { dst := some 54, op := Op.indexAddr 22 (Operand.tmp 52) (Operand.tmp 53), type := _, pos := _, after := _, guard := some (1, false) }) (v := undef) rfl (by kernel_rfl) (by kernel_rfl) (by kernel_rfl) (fun _ _ _ h => h) (Or.inr ⟨by rfl, rfl⟩) hH ?_
              try simp only [Act.put, List.setIfInBounds_toArray, List.set_cons_zero, List.set_cons_succ]
              refine wpAnyH_take (i := 9) (oi := { dst := some 55, op := Op.fieldAddr 49 (Operand.tmp 54) 0, type := _, pos := _, after := _, guard := some (1, false) }) (v := undef) rfl (by kernel_rfl) (by kernel_rfl) (by kernel_rfl) (fun _ _ _ h => h) (Or.inr ⟨by rfl, rfl⟩) hH ?_
              try simp only [Act.put, List.setIfInBounds_toArray, List.set_cons_zero, List.set_cons_succ]
              refine wpAnyH_take (i := 10) (oi := { dst := some 56, op := Op.load 42 (Operand.tmp 55), type := _, pos := _, after := _, guard := some (1, false) }) (v := undef) rfl (by kernel_rfl) (by kernel_rfl) (by kernel_rfl) (fun _ _ _ h => h) (Or.inr ⟨by rfl, rfl⟩) hH ?_
              try simp only [Act.put, List.setIfInBounds_toArray, List.set_cons_zero, List.set_cons_succ]
              refine wpAnyH_take (i := 11) (oi := { dst := some 57, op := Op.binOp BinOp.eql 42 (Operand.tmp 51) (Operand.tmp 56) 42, type := _, pos := _, after := _, guard := some (1, false) }) (v := undef) rfl (by kernel_rfl) (by kernel_rfl) (by kernel_rfl) (fun _ _ _ h => h) (Or.inr ⟨by rfl, rfl⟩) hH ?_
              try simp only [Act.put, List.setIfInBounds_toArray, List.set_cons_zero, List.set_cons_succ]
              refine wpAnyH_take (i := 12) (oi := { dst := some 58, op := Op.pick (Operand.tmp 47) (Operand.const (Value.bool true)) (Operand.tmp 57), type := _, pos := _, after := _, guard := none }) (v := ?_) rfl (by kernel_rfl) (by kernel_rfl) (by kernel_rfl) (fun _ _ _ h => h) (Or.inl ⟨by rfl, ?_⟩) hH ?_
              rotate_left
              · (intro w hSw; (try dsimp only at hSw); go_simp; (try with_reducible rfl))
              try simp only [Act.put, List.setIfInBounds_toArray, List.set_cons_zero, List.set_cons_succ]
              refine wpAnyH_take (i := 13) (oi := { dst := some 9, op := Op.assign (Operand.tmp 58), type := _, pos := _, after := _, guard := none }) (v := ?_) rfl (by kernel_rfl) (by kernel_rfl) (by kernel_rfl) (fun _ _ _ h => h) (Or.inl ⟨by rfl, ?_⟩) hH ?_
              rotate_left
              · (intro w hSw; (try dsimp only at hSw); go_simp; (try with_reducible rfl))
              try simp only [Act.put, List.setIfInBounds_toArray, List.set_cons_zero, List.set_cons_succ]
              refine wpAnyH_done (by kernel_rfl) ?_ _
              refine NoPanic.normal ?_
              clear  gg
              have gg := hH
              go_wp2_with fail
              go_roundw
              case rel => exact ⟨k + 1, true, by omega, rfl, by go_num, Lib.hid HS2.out.symm, Lib.hid gg⟩
              case measure => simp [RowKit.intOf]; omega
          · have hz : z = true := by
              rw [HZ2.out, List.take_of_length_le (by rw [HNT.out]; omega), List.any_eq_true]
              exact ⟨xk, HXT.out, by simp⟩
            subst hz
            go_wp2_with fail
            go_roundw
            case rel => exact ⟨a + 1, by omega, by go_num, HK⟩
            case measure => simp [RowKit.intOf]; omega
    · go_wp2_with fail
      have HK1 := HK
      obtain ⟨wd, hwd⟩ : ∃ x, x = wr := ⟨_, rfl⟩
      subst hwd
      clear HK
      go_loopw [11, 12] (fun i _ wr => ∃ a : Nat, a ≤ nt ∧ i = .int .i64 a ∧ Hid (Kep w5.heap.size w5 wr)) (fun i _ _ => nt - (RowKit.intOf i).toNat)
      case atStart => exact ⟨0, by omega, rfl, HK1⟩
      case round =>
        obtain ⟨a, ha, rfl, HK⟩ := hrel
        by_cases hlta : a < nt
        · have hb : T[a]? = some (T[a]'(by rw [HNT.out]; exact hlta)) := List.getElem?_eq_getElem _
          generalize T[a]'(by rw [HNT.out]; exact hlta) = sk at hb
          obtain ⟨gk, ok, rfl, q⟩ := HA.out a sk hb
          have HS0 : Hid (w5.cell? ⟨gk, ok + a, none⟩ = some (.int .u32 sk)) := Lib.hid (by have := q 0 _ rfl; rwa [Nat.mul_one] at this)
          have HSB := Lib.hid hb
          clear hb q
          go_wp2_with fail
          have HK2 := HK
          obtain ⟨we, hwe⟩ : ∃ x, x = wr := ⟨_, rfl⟩
          subst hwe
          clear HK
          go_loopw [12] (fun i wr => ∃ k : Nat, k ≤ a ∧ i = .int .i64 k ∧ Hid (Kep w5.heap.size w5 wr)) (fun i _ => a - (RowKit.intOf i).toNat)
          case atStart => exact ⟨0, by omega, rfl, HK2⟩
          case round =>
            obtain ⟨k, hk, rfl, HK⟩ := hrel
            have gg := HK.out
            by_cases hlt : k < a
            · have hb : T[k]? = some (T[k]'(by rw [HNT.out]; omega)) := List.getElem?_eq_getElem _
              generalize T[k]'(by rw [HNT.out]; omega) = tk at hb
              obtain ⟨_, _, he, q⟩ := HA.out k tk hb
              injection he with he
              injection he with h1 h2
              subst h1 h2
              have t0 : wr.cell? ⟨gk, ok + k, none⟩ = some (.int .u32 tk) := by have := gg.all (q 0 _ rfl); rwa [Nat.mul_one] at this
              have s0 := gg.all HS0.out
              have hts := HM2.out k a _ _ hb HSB.out hlt
              have q1 : decide (sk ≤ tk) = false := decide_eq_false (by omega)
              have HR : Hid (∀ v w, Sq pv 2 w v C → Calls Tryd.prog 25 #[v, .agg #[.int .u32 tk, .int .u32 sk]] w fun e w' => e = .returned (.bool true) ∧ Kep w.heap.size w w') := Lib.hid (fun v w h => by have := RC.out tk sk v w h; rw [HM3.out _ (List.mem_of_getElem? hb) _ (List.mem_of_getElem? HSB.out) hts] at this; exact this)
              clear hb q hts
              have hkn : k < nt := by omega
              go_wp2_with fail
              refine wp_region_noPanic ?_
              refine wp_region_held_drew (S := (fun w' => w'.cell? ⟨gk, ok + k, none⟩ = some (.int .u32 tk) ∧ w'.cell? ⟨gk, ok + a, none⟩ = some (.int .u32 sk) ∧ Kep w5.heap.size w5 w')) (by kernel_rfl) (⟨by rw [World.cell?_drew]; exact t0, by rw [World.cell?_drew]; exact s0, kep_drew gg⟩) (fun hH => ?_)
              refine wpAnyH_take (i := 0) (oi := { dst := some 72, op := Op.move (Operand.tmp 6), type := _, pos := _, after := _, guard := none }) (v := ?_) rfl (by kernel_rfl) (by kernel_rfl) (by kernel_rfl) (fun _ _ _ h => h) (Or.inl ⟨by rfl, ?_⟩) hH ?_
              rotate_left
              · (intro w hSw; (try dsimp only at hSw); go_simp; (try with_reducible rfl))
              try simp only [Act.put, List.setIfInBounds_toArray, List.set_cons_zero, List.set_cons_succ]
              refine wpAnyH_take (i := 1) (oi := { dst := some 73, op := Op.move (Operand.tmp 12), type := _, pos := _, after := _, guard := none }) (v := ?_) rfl (by kernel_rfl) (by kernel_rfl) (by kernel_rfl) (fun _ _ _ h => h) (Or.inl ⟨by rfl, ?_⟩) hH ?_
              rotate_left
              · (intro w hSw; (try dsimp only at hSw); go_simp; (try with_reducible rfl))
              try simp only [Act.put, List.setIfInBounds_toArray, List.set_cons_zero, List.set_cons_succ]
              refine wpAnyH_take (i := 2) (oi := { dst := some 74, op := Op.indexAddr 27 (Operand.tmp 72) (Operand.tmp 73), type := _, pos := _, after := _, guard := none }) (v := ?_) rfl (by kernel_rfl) (by kernel_rfl) (by kernel_rfl) (fun _ _ _ h => h) (Or.inl ⟨by rfl, ?_⟩) hH ?_
              rotate_left
              · (intro w hSw; (try dsimp only at hSw); go_simp; (try with_reducible rfl))
              try simp only [Act.put, List.setIfInBounds_toArray, List.set_cons_zero, List.set_cons_succ]
              refine wpAnyH_take (i := 3) (oi := { dst := some 75, op := Op.load 42 (Operand.tmp 74), type := _, pos := _, after := _, guard := none }) (v := ?_) rfl (by kernel_rfl) (by kernel_rfl) (by kernel_rfl) (fun _ _ _ h => h) (Or.inl ⟨by rfl, ?_⟩) hH ?_
              rotate_left
              · (intro w hSw; (try dsimp only at hSw); go_simp; (try with_reducible rfl))
              try simp only [Act.put, List.setIfInBounds_toArray, List.set_cons_zero, List.set_cons_succ]
              refine wpAnyH_take (i := 4) (oi := { dst := some 76, op := Op.move (Operand.tmp 6), type := _, pos := _, after := _, guard := none }) (v := ?_) rfl (by kernel_rfl) (by kernel_rfl) (by kernel_rfl) (fun _ _ _ h => h) (Or.inl ⟨by rfl, ?_⟩) hH ?_
              rotate_left
              · (intro w hSw; (try dsimp only at hSw); go_simp; (try with_reducible rfl))
              try simp only [Act.put, List.setIfInBounds_toArray, List.set_cons_zero, List.set_cons_succ]
              refine wpAnyH_take (i := 5) (oi := { dst := some 77, op := Op.move (Operand.tmp 11), type := _, pos := _, after := _, guard := none }) (v := ?_) rfl (by kernel_rfl) (by kernel_rfl) (by kernel_rfl) (fun _ _ _ h => h) (Or.inl ⟨by rfl, ?_⟩) hH ?_
              rotate_left
              · (intro w hSw; (try dsimp only at hSw); go_simp; (try with_reducible rfl))
              try simp only [Act.put, List.setIfInBounds_toArray, List.set_cons_zero, List.set_cons_succ]
              refine wpAnyH_take (i := 6) (oi := { dst := some 78, op := Op.indexAddr 27 (Operand.tmp 76) (Operand.tmp 77), type := _, pos := _, after := _, guard := none }) (v := ?_) rfl (by kernel_rfl) (by kernel_rfl) (by kernel_rfl) (fun _ _ _ h => h) (Or.inl ⟨by rfl, ?_⟩) hH ?_
              rotate_left
              · (intro w hSw; (try dsimp only at hSw); go_simp; (try with_reducible rfl))
              try simp only [Act.put, List.setIfInBounds_toArray, List.set_cons_zero, List.set_cons_succ]
              refine wpAnyH_take (i := 7) (oi := { dst := some 79, op := Op.load 42 (Operand.tmp 78), type := _, pos := _, after := _, guard := none }) (v := ?_) rfl (by kernel_rfl) (by kernel_rfl) (by kernel_rfl) (fun _ _ _ h => h) (Or.inl ⟨by rfl, ?_⟩) hH ?_
              rotate_left
              · (intro w hSw; (try dsimp only at hSw); go_simp; (try with_reducible rfl))
              try simp only [Act.put, List.setIfInBounds_toArray, List.set_cons_zero, List.set_cons_succ]
              refine wpAnyH_take (i := 8) (oi := { dst := some 80, op := Op.binOp BinOp.geq 42 (Operand.tmp 75) (Operand.tmp 79) 42, type := _, pos := _, after := _, guard := none }) (v := ?_) rfl (by kernel_rfl) (by kernel_rfl) (by kernel_rfl) (fun _ _ _ h => h) (Or.inl ⟨by rfl, ?_⟩) hH ?_
              rotate_left
              · (intro w hSw; (try dsimp only at hSw); go_simp; (try with_reducible rfl))
              try simp only [Act.put, List.setIfInBounds_toArray, List.set_cons_zero, List.set_cons_succ]
              refine wpAnyH_take (i := 9) (oi := { dst := some 81, op := Op.move (Operand.tmp 80), type := _, pos := _, after := _, guard := none }) (v := ?_) rfl (by kernel_rfl) (by kernel_rfl) (by kernel_rfl) (fun _ _ _ h => h) (Or.inl ⟨by rfl, ?_⟩) hH ?_
              rotate_left
              · (intro w hSw; (try dsimp only at hSw); go_simp; (try with_reducible rfl))
              try simp only [Act.put, List.setIfInBounds_toArray, List.set_cons_zero, List.set_cons_succ]
              refine wpAnyH_take (i := 10) (oi := { dst := some 82, op := Op.move (Operand.tmp 7), type := _, pos := _, after := _, guard := some (9, false) }) (v := ?_) rfl (by kernel_rfl) (by kernel_rfl) (by kernel_rfl) (fun _ _ _ h => h) (Or.inl ⟨by rfl, ?_⟩) hH ?_
              rotate_left
              · (intro w hSw; (try dsimp only at hSw); go_simp; (try with_reducible rfl))
              try simp only [Act.put, List.setIfInBounds_toArray, List.set_cons_zero, List.set_cons_succ]
              refine wpAnyH_take (i := 11) (oi := { dst := some 83, op := Op.move (Operand.tmp 6), type := _, pos := _, after := _, guard := some (9, false) }) (v := ?_) rfl (by kernel_rfl) (by kernel_rfl) (by kernel_rfl) (fun _ _ _ h => h) (Or.inl ⟨by rfl, ?_⟩) hH ?_
              rotate_left
              · (intro w hSw; (try dsimp only at hSw); go_simp; (try with_reducible rfl))
              try simp only [Act.put, List.setIfInBounds_toArray, List.set_cons_zero, List.set_cons_succ]
              refine wpAnyH_take (i := 12) (oi := { dst := some 84, op := Op.move (Operand.tmp 12), type := _, pos := _, after := _, guard := some (9, false) }) (v := ?_) rfl (by kernel_rfl) (by kernel_rfl) (by kernel_rfl) (fun _ _ _ h => h) (Or.inl ⟨by rfl, ?_⟩) hH ?_
              rotate_left
              · (intro w hSw; (try dsimp only at hSw); go_simp; (try with_reducible rfl))
              try simp only [Act.put, List.setIfInBounds_toArray, List.set_cons_zero, List.set_cons_succ]
              refine wpAnyH_take (i := 13) (oi := { dst := some 85, op := Op.indexAddr 27 (Operand.tmp 83) (Operand.tmp 84), type := _, pos := _, after := _, guard := some (9, false) }) (v := ?_) rfl (by kernel_rfl) (by kernel_rfl) (by kernel_rfl) (fun _ _ _ h => h) (Or.inl ⟨by rfl, ?_⟩) hH ?_
              rotate_left
              · (intro w hSw; (try dsimp only at hSw); go_simp; (try with_reducible rfl))
              try simp only [Act.put, List.setIfInBounds_toArray, List.set_cons_zero, List.set_cons_succ]
              refine wpAnyH_take (i := 14) (oi := { dst := some 86, op := Op.load 42 (Operand.tmp 85), type := _, pos := _, after := _, guard := some (9, false) }) (v := ?_) rfl (by kernel_rfl) (by kernel_rfl) (by kernel_rfl) (fun _ _ _ h => h) (Or.inl ⟨by rfl, ?_⟩) hH ?_
              rotate_left
              · (intro w hSw; (try dsimp only at hSw); go_simp; (try with_reducible rfl))
              try simp only [Act.put, List.setIfInBounds_toArray, List.set_cons_zero, List.set_cons_succ]
              refine wpAnyH_take (i := 15) (oi := { dst := some 87, op := Op.move (Operand.tmp 6), type := _, pos := _, after := _, guard := some (9, false) }) (v := ?_) rfl (by kernel_rfl) (by kernel_rfl) (by kernel_rfl) (fun _ _ _ h => h) (Or.inl ⟨by rfl, ?_⟩) hH ?_
              rotate_left
              · (intro w hSw; (try dsimp only at hSw); go_simp; (try with_reducible rfl))
              try simp only [Act.put, List.setIfInBounds_toArray, List.set_cons_zero, List.set_cons_succ]
              refine wpAnyH_take (i := 16) (oi := { dst := some 88, op := Op.move (Operand.tmp 11), type := _, pos := _, after := _, guard := some (9, false) }) (v := ?_) rfl (by kernel_rfl) (by kernel_rfl) (by kernel_rfl) (fun _ _ _ h => h) (Or.inl ⟨by rfl, ?_⟩) hH ?_
              rotate_left
              · (intro w hSw; (try dsimp only at hSw); go_simp; (try with_reducible rfl))
              try simp only [Act.put, List.setIfInBounds_toArray, List.set_cons_zero, List.set_cons_succ]
              refine wpAnyH_take (i := 17) (oi := { dst := some 89, op := Op.indexAddr 27 (Operand.tmp 87) (Operand.tmp 88), type := _, pos := _, after := _, guard := some (9, false) }) (v := ?_) rfl (by kernel_rfl) (by kernel_rfl) (by kernel_rfl) (fun _ _ _ h => h) (Or.inl ⟨by rfl, ?_⟩) hH ?_
              rotate_left
              · (intro w hSw; (try dsimp only at hSw); go_simp; (try with_reducible rfl))
              try simp only [Act.put, List.setIfInBounds_toArray, List.set_cons_zero, List.set_cons_succ]
              refine wpAnyH_take (i := 18) (oi := { dst := some 90, op := Op.load 42 (Operand.tmp 89), type := _, pos := _, after := _, guard := some (9, false) }) (v := ?_) rfl (by kernel_rfl) (by kernel_rfl) (by kernel_rfl) (fun _ _ _ h => h) (Or.inl ⟨by rfl, ?_⟩) hH ?_
              rotate_left
              · (intro w hSw; (try dsimp only at hSw); go_simp; (try with_reducible rfl))
              try simp only [Act.put, List.setIfInBounds_toArray, List.set_cons_zero, List.set_cons_succ]
              refine wpAnyH_take (i := 19) (oi := { dst := some 91, op := Op.build 44 #[(0, Operand.tmp 86), (1, Operand.tmp 90)], type := _, pos := _, after := _, guard := some (9, false) }) (v := ?_) rfl (by kernel_rfl) (by kernel_rfl) (by kernel_rfl) (fun _ _ _ h => h) (Or.inl ⟨by rfl, ?_⟩) hH ?_
              rotate_left
              · (intro w hSw; (try dsimp only at hSw); go_simp; (try with_reducible rfl))
              try simp only [Act.put, List.setIfInBounds_toArray, List.set_cons_zero, List.set_cons_succ]
              refine wpAnyH_ready (rs := [20]) (by kernel_rfl) (by simp) ?_
              refine AllReadyH.cons (o := { dst := some 92, op := Op.call { callee := Callee.value (Operand.func 25), args := #[Operand.tmp 82, Operand.tmp 91], argTypes := #[35, 44] }, type := _, pos := _, after := _, guard := some (9, false) }) rfl (fun K hK => ?_) AllReadyH.nil
              go_simp
              (with_reducible refine (HR.out _ _ (HQC.out.kep hH.2.2)).mono ?_); rintro e v23_20 ⟨rfl, g⟩
              refine hK.out _ _ (by (try dsimp only); (go_split_ands; exact ⟨Kep.all g (by assumption), Kep.all g (by assumption), kep_next (by assumption) g⟩)) (fun hH2 => ?_)
              clear hK K hH; have hH := hH2; clear hH2
              try simp only [Act.put, List.setIfInBounds_toArray, List.set_cons_zero, List.set_cons_succ]
              refine wpAnyH_take (i := 21) (oi := { dst := some 93, op := Op.unOp UnOp.not 4 (Operand.tmp 92), type := _, pos := _, after := _, guard := some (9, false) }) (v := ?_) rfl (by kernel_rfl) (by kernel_rfl) (by kernel_rfl) (fun _ _ _ h => h) (Or.inl ⟨by rfl, ?_⟩) hH ?_
              rotate_left
              · (intro w hSw; (try dsimp only at hSw); go_simp; (try with_reducible rfl))
              try simp only [Act.put, List.setIfInBounds_toArray, List.set_cons_zero, List.set_cons_succ]
              refine wpAnyH_take (i := 22) (oi := { dst := some 94, op := Op.pick (Operand.tmp 81) (Operand.const (Value.bool true)) (Operand.tmp 93), type := _, pos := _, after := _, guard := none }) (v := ?_) rfl (by kernel_rfl) (by kernel_rfl) (by kernel_rfl) (fun _ _ _ h => h) (Or.inl ⟨by rfl, ?_⟩) hH ?_
              rotate_left
              · (intro w hSw; (try dsimp only at hSw); go_simp; (try with_reducible rfl))
              try simp only [Act.put, List.setIfInBounds_toArray, List.set_cons_zero, List.set_cons_succ]
              refine wpAnyH_done (by kernel_rfl) ?_ _
              refine NoPanic.normal ?_
              clear t0 s0 gg
              obtain ⟨t0, s0, gg⟩ := hH
              go_wp2_with fail
              go_roundw
              case rel => exact ⟨k + 1, by omega, by go_num, Lib.hid gg⟩
              case measure => simp [RowKit.intOf]; omega
            · go_wp2_with fail
              go_roundw
              case rel => exact ⟨a + 1, by omega, by go_num, HK⟩
              case measure => simp [RowKit.intOf]; omega
        · go_wp2_with fail
          go_ret
          exact ⟨rfl, kep_next G0.out HK.out⟩
/-- The law GridPoints. -/
theorem gpl_law {GI : World → Nat → (Nat → Prop) → List Ent → Prop} (O : GOps GI) (AW : GAwake) (px py : Int) (hx : In3 px) (hy : In3 py) (L : List Ent) (hl9 : L.length ≤ 9223372036854775807) (HF : Hid (∀ x ∈ L, FitE x)) (v : Value) (w : World) (F0 : Fac w) (hq : Sq ev 5 w v L) (HU : Hid (∀ x ∈ L, (Lit.int .u32 x.k).wf = true)) : Calls Tryd.prog 6 #[v, .agg #[.int .i32 px, .int .i32 py]] w fun e w' => e = .returned (.bool true) ∧ Kep w.heap.size w w' := by
  cases hfew : fewB L
  · exact gpl_bad (Lib.hid AW) px py L hl9 HF v w F0 hq hfew
  · exact gpl_ok O (Lib.hid AW) px py hx hy L hl9 HF v w F0 hq HU hfew
end Go.Proofs.YtnmnbogjnjbopaaDoor
