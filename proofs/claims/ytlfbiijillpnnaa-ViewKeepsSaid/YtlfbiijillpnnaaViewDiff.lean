/-
  Package view's reference: Diff.
-/
import Derived.Test.YtlfbiijillpnnaaViewTri
import Derived.Deep.RegionLaw
import Derived.Deep.QuietTactic
import Derived.BigQuiet
namespace Go.Proofs.Ytlfbiijillpnnaa
open Go.RowKit Go.Lib

/-- What holds at a round's head: the result's block, the three lists. -/
def DRel (w wr : World) (A R C : List Int) : Prop := (∃ V K, Tri (w.heap.size + 1) wr V K ∧ K 0 = A ∧ K 1 = R ∧ K 2 = C) ∧ (∀ i, i < 3 → wr.cell? ⟨w.heap.size, i, none⟩ = some (.slice none 0 0)) ∧ (∀ i, wr.frozen? ⟨w.heap.size, i, none⟩ = false) ∧ Kep w.heap.size w wr
theorem DRel.start (w : World) : DRel w ((w.alloc (.cells #[.slice none 0 0, .slice none 0 0, .slice none 0 0] 43)).alloc (.cells #[.slice none 0 0, .slice none 0 0, .slice none 0 0] 43)) [] [] [] := by
  refine ⟨⟨fun _ => .slice none 0 0, fun _ => [], ⟨fun i hi => ?_, fun i => ?_, fun i hi => World.ownsRow_nil _ _ _ _, fun i j g _ _ e => by cases e⟩, rfl, rfl, rfl⟩, fun i hi => ?_, fun i => ?_, (Kep.alloc (Kep.refl _ _) (Nat.le_refl _) _).alloc (by simp) _⟩
  · rw [World.cell?_alloc_at _ _ _ _ (by simp)]
    rcases i with _ | _ | _ | i <;> first | rfl | omega
  · rw [World.frozen?_alloc_at _ _ _ _ (by simp)]
  · rw [World.cell?_alloc_past _ _ _ (by simp), World.cell?_alloc_at _ _ _ _ rfl]
    rcases i with _ | _ | _ | i <;> first | rfl | omega
  · rw [World.frozen?_alloc_past _ _ _ (by simp)]
    rw [World.frozen?_alloc_at _ _ _ _ rfl]
theorem DRel.cast {w wr : World} {A R C A' R' C' : List Int} (h : DRel w wr A R C) (hA : A = A') (hR : R = R') (hC : C = C') : DRel w wr A' R' C' := by
  subst hA; subst hR; subst hC; exact h
theorem DRel.more {w wr wa w4 : World} {V : Nat → Value} {K : Nat → List Int} (T : Tri (w.heap.size + 1) wr V K) (hb : ∀ i, i < 3 → wr.cell? ⟨w.heap.size, i, none⟩ = some (.slice none 0 0)) (hf : ∀ i, wr.frozen? ⟨w.heap.size, i, none⟩ = false) (hk : Kep w.heap.size w wr) (ga : wr.grownBy wa none) {j : Nat} (hj : j < 3) {x : Int} {g cap : Nat}
    (h4 : w4.ownsRow (w.heap.size + 1 + 1) 23 1 (.slice (some ⟨g, 0, none⟩) ((K j).length + 1) cap) ((K j).length + 1) (kv (K j) ++ [.int .u32 x])) (g4 : wa.grownBy w4 (V j).ownBlock) (hat : (V j).ownBlock = some g ∨ wa.heap.size ≤ g) :
    DRel w (w4.setCell ⟨w.heap.size + 1, j, none⟩ (.slice (some ⟨g, 0, none⟩) ((K j).length + 1) cap)) (upd K j (K j ++ [x]) 0) (upd K j (K j ++ [x]) 1) (upd K j (K j ++ [x]) 2) := by
  have hs : w.heap.size < wr.heap.size := World.block_lt_of_cell? _ _ (hb 0 (by decide))
  have hs2 := ga.size
  have hs4 := g4.size
  have ne : some w.heap.size ≠ (V j).ownBlock := fun e => by have := ((T.own j hj).lt _ e.symm).1; omega
  have bb : w4.heap[w.heap.size]? = wr.heap[w.heap.size]? := (g4.block _ (by omega) ne).trans (ga.block _ hs (by simp))
  have gs := sc_by w4 (w.heap.size + 1) j (.slice (some ⟨g, 0, none⟩) ((K j).length + 1) cap)
  have bs := (gs.block w.heap.size (by omega) (by simp)).trans bb
  refine ⟨⟨_, _, (T.grown ga).more hj h4 g4 hat, rfl, rfl, rfl⟩, fun i hi => (World.cell?_of_block bs).trans (hb i hi), fun i => (World.frozen?_of_block bs).trans (hf i), ?_⟩
  refine (hk.trans ⟨ga.os, ga.output, ga.size, fun k hk => ga.block k (by omega) (by simp)⟩).trans ⟨gs.os.trans g4.os, gs.output.trans g4.output, Nat.le_trans g4.size gs.size, fun k hk => ?_⟩
  exact (gs.block k (by omega) (by simp; omega)).trans (g4.block k (by omega) (fun e => by have := ((T.own j hj).lt _ e.symm).1; omega))
theorem DRel.drewN {w wr : World} {A R C : List Int} (h : DRel w wr A R C) (n : Nat) : DRel w (wr.drewN n) A R C := by
  obtain ⟨⟨V, K, T, hK⟩, h1, h2, h3⟩ := h
  exact ⟨⟨V, K, T.drewN n, hK⟩, h1, h2, h3.drewN n⟩
theorem app_nil_if {K : List Int} {x : Int} {c : Bool} (h : c = false) : (K ++ if c = true then [x] else []) = K := by simp [h]
theorem app_one_if {K : List Int} {x : Int} {c : Bool} (h : c = true) : (K ++ if c = true then [x] else []) = K ++ [x] := by simp [h]
set_option maxRecDepth 100000 in
set_option maxHeartbeats 4000000 in
theorem diff_any (base1 base2 : Option Addr) (cap1 cap2 : Nat) (L M : List Bd) (w : World) (h1 : Lst w (.slice base1 L.length cap1) L) (h2 : Lst w (.slice base2 M.length cap2) M) (m1 : L.length ≤ 1000000) (m2 : M.length ≤ 1000000) :
    Calls Try.prog 19 #[.slice base1 L.length cap1, .slice base2 M.length cap2] w fun e w' => ∃ v', e = .returned v' ∧ CLst w' v' (diffC L M) ∧ Kep w.heap.size w w' := by
  have F1 := Lib.hid (fun key w' (g : Kep w.heap.size w w') => find_any _ L key w' (h1.kep g) (by omega))
  have F2 := Lib.hid (fun key w' (g : Kep w.heap.size w w') => find_any _ M key w' (h2.kep g) (by omega))
  obtain ⟨i0, hi, hz0, hz1, hz2⟩ := info_parts info_u32
  obtain ⟨n1, hn1⟩ : ∃ n, n = L.length := ⟨_, rfl⟩
  obtain ⟨n2, hn2⟩ : ∃ n, n = M.length := ⟨_, rfl⟩
  rw [← hn1] at F1 h1 m1 ⊢
  rw [← hn2] at F2 h2 m2 ⊢
  have HN1 := Lib.hid hn1.symm
  have HN2 := Lib.hid hn2.symm
  have H1 := Lib.hid h1
  have H2 := Lib.hid h2
  have HI := Lib.hid hi
  have D0 := Lib.hid (DRel.start w)
  clear hn1 hn2 h1 h2 hi
  go_enter Try.func19, Try.ntmps19
  go_wp2
  go_loopw [6] (fun i wr => ∃ k : Nat, k ≤ n1 ∧ i = .int .i64 k ∧ Hid (DRel w wr [] (remL (L.take k) M) (chgL (L.take k) M))) (fun i _ => n1 - (RowKit.intOf i).toNat)
  case atStart => exact ⟨0, Nat.zero_le _, rfl, D0⟩
  case round =>
    obtain ⟨k, hk, rfl, HK⟩ := hrel
    by_cases hlt : k < n1
    · have hx : L[k]? = some (L[k]'(by rw [HN1.out]; exact hlt)) := List.getElem?_eq_getElem _
      generalize L[k]'(by rw [HN1.out]; exact hlt) = x at hx
      obtain ⟨g1, off1, hb1, hc1⟩ := Lst.at_ (H1.out.kep HK.out.2.2.2) hx
      subst hb1
      have x0 : wr.cell? ⟨g1, off1 + k * 10, none⟩ = some (.int .u32 x.k) := hc1 0 (by omega)
      have C := Lib.hid (F2.out x.k wr HK.out.2.2.2)
      have RT := Lib.hid (remL_take (M := M) hx)
      have CT := Lib.hid (chgL_take (M := M) hx)
      obtain ⟨⟨V, K, T, hA, hR, hC⟩, rest⟩ := HK.out
      have HT := Lib.hid T
      have HKK := Lib.hid (And.intro hA (And.intro hR hC))
      have HR := Lib.hid rest
      have c1 := T.cell 1 (by decide)
      have c2 := T.cell 2 (by decide)
      clear T hA hR hC rest
      cases lk : look M x.k with
      | none =>
        have pl : place M x.k 0 = -1 := (place_eq M x.k 0).1 lk
        rw [pl] at C
        have LK := Lib.hid lk
        clear lk pl hc1
        have hl1 : (K 1).length ≤ k := by rw [HKK.out.2.1]; exact remL_len L M k
        have HX := Lib.hid hx
        clear hx
        go_wp2_with ((with_reducible refine (C.out).mono ?_); rintro e w2 ⟨rfl, rfl⟩)
        have n3 : some (w.heap.size + 1) ≠ (V 1).ownBlock := fun e => by have := ((HT.out.own 1 (by decide)).lt _ e.symm).1; omega
        have AO : Hid (∀ o, (wr.drew.alloc o).ownsRow (w.heap.size + 1 + 1) 23 1 (V 1) (K 1).length (kv (K 1))) := Lib.hid (fun o => ((HT.out.own 1 (by decide)).drew).alloc o)
        have T2 : Hid (∀ o, Tri (w.heap.size + 1) (wr.drew.alloc o) V K) := Lib.hid (fun o => (HT.out.drewN 1).grown (World.grownBy_alloc wr.drew o none))
        have d1 := fun o => (T2.out o).cell 1 (by decide)
        have e1 := fun o => (T2.out o).fr 1
        have lt1 : w.heap.size + 1 < wr.heap.size := HT.out.lt
        go_region_law ((refine step_append_lies _ (by rfl) _ _ 41 (by rfl) (w.heap.size + 1 + 1) 23 i0 (.int .u32 0) 1 4 Try.underlying41 HI.out hz0 hz1 hz2 rfl (by decide) (V 1) (K 1).length (kv (K 1)) (by rfl) (AO.out _) ⟨wr.heap.size, 0, none⟩ 1 1 [.int .u32 x.k] (by rfl) (by rfl) (World.news_of_block (cs := #[Value.int .u32 x.k]) (t := 23) (fr := (0, 0)) (heap_alloc_new wr.drew _)) (by simp [Value.oneCell']) (by decide) (by unfold maxLen; omega) (by omega) (by simp; omega) (wr.heap.size + 1) (by simp) ?_; intro g cap' w4 hown hgrow hat hlt; have d2 := hgrow.cell (d1 _) n3; have e2 : w4.frozen? ⟨w.heap.size + 1, 1, none⟩ = false := (hgrow.frozen_far _ (World.block_lt_of_cell? _ _ (d1 _)) n3).trans (e1 _)))
        all_goals go_wp2_with fail
        all_goals go_roundw
        all_goals first
        | (simp [RowKit.intOf]; omega)
        | exact ⟨k + 1, by omega, by go_num, Lib.hid ((DRel.more (wr := wr.drew) (HT.out.drewN 1) HR.out.1 HR.out.2.1 HR.out.2.2.drew (World.grownBy_alloc wr.drew _ none) (by decide) hown hgrow (hat.imp id (fun e => by rw [e]; simp))).cast HKK.out.1 (by rw [RT.out, app_one_if (by rw [LK.out]; rfl)]; exact congrArg (· ++ [x.k]) HKK.out.2.1) (by rw [CT.out, app_nil_if (chg_none LK.out)]; exact HKK.out.2.2))⟩
      | some y =>
        obtain ⟨jj, pl, hy⟩ := (place_eq M x.k 0).2 y lk
        rw [pl, Nat.zero_add] at C
        have LK := Lib.hid lk
        clear lk pl
        obtain ⟨g2, off2, hb2, hc2⟩ := Lst.at_ (H2.out.kep HK.out.2.2.2) hy
        subst hb2
        have hjn : (jj : Int) < (n2 : Int) := by have := (List.getElem?_eq_some_iff.1 hy).1; rw [HN2.out] at this; omega
        have hj0 : (0 : Int) ≤ (jj : Int) := Int.natCast_nonneg _
        have hx0 : (0 : Int) ≤ (k : Int) := Int.natCast_nonneg _
        have hxn : (k : Int) < (n1 : Int) := by omega
        obtain ⟨x0, x1, x2, x3, x4, x5, x6, x7, x8, x9⟩ := old_cells (Kep.refl _ _) hc1
        obtain ⟨y0, y1, y2, y3, y4, y5, y6, y7, y8, y9⟩ := old_cells (Kep.refl _ _) hc2
        have e := body_cmp y x
        have HX := Lib.hid hx
        have HY := Lib.hid hy
        clear hx hy hc1 hc2
        cases q : eqB y x with
        | true =>
          rw [q] at e
          have Q := Lib.hid q
          clear q
          go_wp2_with ((with_reducible refine (C.out).mono ?_); rintro e w2 ⟨rfl, rfl⟩)
          go_quiet (fail)
          go_wp2_with fail
          go_roundw
          case rel => exact ⟨k + 1, by omega, by go_num, Lib.hid ((HK.out.drewN _).cast rfl (by rw [RT.out, app_nil_if (by rw [LK.out]; rfl)]) (by rw [CT.out, app_nil_if (by rw [chg_some LK.out, Q.out]; rfl)]))⟩
          case measure => simp [RowKit.intOf]; omega
        | false =>
          rw [q] at e
          have Q := Lib.hid q
          clear q
          go_wp2_with ((with_reducible refine (C.out).mono ?_); rintro e w2 ⟨rfl, rfl⟩)
          go_quiet (fail)
          go_wp2_with fail
          clear x1 x2 x3 x4 x5 x6 x7 x8 x9 y0 y1 y2 y3 y4 y5 y6 y7 y8 y9 e
          obtain ⟨wq, hwq⟩ : ∃ wq, wq = wr.drewN nq := ⟨_, rfl⟩
          have x0q : wq.cell? ⟨g1, off1 + k * 10, none⟩ = some (.int .u32 x.k) := by rw [hwq]; exact x0
          have c2q : wq.cell? ⟨w.heap.size + 1, 2, none⟩ = some (V 2) := by rw [hwq]; exact c2
          have HTq : Hid (Tri (w.heap.size + 1) wq V K) := Lib.hid (by rw [hwq]; exact HT.out.drewN _)
          have HRq : Hid ((∀ i, i < 3 → wq.cell? ⟨w.heap.size, i, none⟩ = some (.slice none 0 0)) ∧ (∀ i, wq.frozen? ⟨w.heap.size, i, none⟩ = false) ∧ Kep w.heap.size w wq) := Lib.hid (by rw [hwq]; exact ⟨HR.out.1, HR.out.2.1, HR.out.2.2.drewN _⟩)
          have hl1 : (K 2).length ≤ k := by rw [HKK.out.2.2]; exact chgL_len L M k
          rw [← hwq]
          clear hwq x0 c1 c2
          have n3 : some (w.heap.size + 1) ≠ (V 2).ownBlock := fun e => by have := ((HTq.out.own 2 (by decide)).lt _ e.symm).1; omega
          have AO : Hid (∀ o, (wq.drew.alloc o).ownsRow (w.heap.size + 1 + 1) 23 1 (V 2) (K 2).length (kv (K 2))) := Lib.hid (fun o => ((HTq.out.own 2 (by decide)).drew).alloc o)
          have T2 : Hid (∀ o, Tri (w.heap.size + 1) (wq.drew.alloc o) V K) := Lib.hid (fun o => (HTq.out.drewN 1).grown (World.grownBy_alloc wq.drew o none))
          have d1 := fun o => (T2.out o).cell 2 (by decide)
          have e1 := fun o => (T2.out o).fr 2
          have lt1 : w.heap.size + 1 < wq.heap.size := HTq.out.lt
          go_region_law ((refine step_append_lies _ (by rfl) _ _ 41 (by rfl) (w.heap.size + 1 + 1) 23 i0 (.int .u32 0) 1 4 Try.underlying41 HI.out hz0 hz1 hz2 rfl (by decide) (V 2) (K 2).length (kv (K 2)) (by rfl) (AO.out _) ⟨wq.heap.size, 0, none⟩ 1 1 [.int .u32 x.k] (by rfl) (by rfl) (World.news_of_block (cs := #[Value.int .u32 x.k]) (t := 23) (fr := (0, 0)) (heap_alloc_new wq.drew _)) (by simp [Value.oneCell']) (by decide) (by unfold maxLen; omega) (by omega) (by simp; omega) (wq.heap.size + 1) (by simp) ?_; intro g cap' w4 hown hgrow hat hlt; have d2 := hgrow.cell (d1 _) n3; have e2 : w4.frozen? ⟨w.heap.size + 1, 2, none⟩ = false := (hgrow.frozen_far _ (World.block_lt_of_cell? _ _ (d1 _)) n3).trans (e1 _)))
          all_goals go_wp2_with fail
          all_goals go_roundw
          all_goals first
            | (simp [RowKit.intOf]; omega)
            | exact ⟨k + 1, by omega, by go_num, Lib.hid ((DRel.more (wr := wq.drew) (HTq.out.drewN 1) HRq.out.1 HRq.out.2.1 HRq.out.2.2.drew (World.grownBy_alloc wq.drew _ none) (by decide) hown hgrow (hat.imp id (fun e => by rw [e]; simp))).cast HKK.out.1 (by rw [RT.out, app_nil_if (by rw [LK.out]; rfl)]; exact HKK.out.2.1) (by rw [CT.out, app_one_if (by rw [chg_some LK.out, Q.out]; rfl)]; exact congrArg (· ++ [x.k]) HKK.out.2.2))⟩
    · have D1 : Hid (DRel w wr [] (remL L M) (chgL L M)) := Lib.hid (HK.out.cast rfl (by rw [List.take_of_length_le (by rw [HN1.out]; omega)]) (by rw [List.take_of_length_le (by rw [HN1.out]; omega)]))
      clear HK
      go_wp2
      go_loopw [8] (fun i wr => ∃ k : Nat, k ≤ n2 ∧ i = .int .i64 k ∧ Hid (DRel w wr (remL (M.take k) L) (remL L M) (chgL L M))) (fun i _ => n2 - (RowKit.intOf i).toNat)
      case atStart => exact ⟨0, Nat.zero_le _, rfl, D1⟩
      case round =>
        clear D1 hk hlt
        obtain ⟨k, hk, rfl, HK⟩ := hrel
        by_cases hlt : k < n2
        · have hy : M[k]? = some (M[k]'(by rw [HN2.out]; exact hlt)) := List.getElem?_eq_getElem _
          generalize M[k]'(by rw [HN2.out]; exact hlt) = y at hy
          obtain ⟨g2, off2, hb2, hc2⟩ := Lst.at_ (H2.out.kep HK.out.2.2.2) hy
          subst hb2
          have y0 : wr.cell? ⟨g2, off2 + k * 10, none⟩ = some (Value.int .u32 y.k) := hc2 0 (by omega)
          have C := Lib.hid (F1.out y.k _ HK.out.2.2.2)
          have RT := Lib.hid (remL_take (M := L) hy)
          obtain ⟨⟨V, K, T, hA, hR, hC⟩, rest⟩ := HK.out
          have HT := Lib.hid T
          have HKK := Lib.hid (And.intro hA (And.intro hR hC))
          have HR := Lib.hid rest
          have c0 := T.cell 0 (by decide)
          have hl1 : (K 0).length ≤ k := by rw [hA]; exact remL_len M L k
          clear T hA hR hC rest hc2
          cases lk : look L y.k with
          | none =>
            have pl : place L y.k 0 = -1 := (place_eq L y.k 0).1 lk
            rw [pl] at C
            have LK := Lib.hid lk
            clear lk pl hy
            go_wp2_with ((with_reducible refine (C.out).mono ?_); rintro e w2 ⟨rfl, rfl⟩)
            have n3 : some (w.heap.size + 1) ≠ (V 0).ownBlock := fun e => by have := ((HT.out.own 0 (by decide)).lt _ e.symm).1; omega
            have AO : Hid (∀ o, (wr.drew.alloc o).ownsRow (w.heap.size + 1 + 1) 23 1 (V 0) (K 0).length (kv (K 0))) := Lib.hid (fun o => ((HT.out.own 0 (by decide)).drew).alloc o)
            have T2 : Hid (∀ o, Tri (w.heap.size + 1) (wr.drew.alloc o) V K) := Lib.hid (fun o => (HT.out.drewN 1).grown (World.grownBy_alloc wr.drew o none))
            have d1 := fun o => (T2.out o).cell 0 (by decide)
            have e1 := fun o => (T2.out o).fr 0
            have lt1 : w.heap.size + 1 < wr.heap.size := HT.out.lt
            go_region_law ((refine step_append_lies _ (by rfl) _ _ 41 (by rfl) (w.heap.size + 1 + 1) 23 i0 (.int .u32 0) 1 4 Try.underlying41 HI.out hz0 hz1 hz2 rfl (by decide) (V 0) (K 0).length (kv (K 0)) (by rfl) (AO.out _) ⟨wr.heap.size, 0, none⟩ 1 1 [.int .u32 y.k] (by rfl) (by rfl) (World.news_of_block (cs := #[Value.int .u32 y.k]) (t := 23) (fr := (0, 0)) (heap_alloc_new wr.drew _)) (by simp [Value.oneCell']) (by decide) (by unfold maxLen; omega) (by omega) (by simp; omega) (wr.heap.size + 1) (by simp) ?_; intro g cap' w4 hown hgrow hat hlt; have d2 := hgrow.cell (d1 _) n3; have e2 : w4.frozen? ⟨w.heap.size + 1, 0, none⟩ = false := (hgrow.frozen_far _ (World.block_lt_of_cell? _ _ (d1 _)) n3).trans (e1 _)))
            all_goals go_wp2_with fail
            all_goals go_roundw
            all_goals first
              | (simp [RowKit.intOf]; omega)
              | exact ⟨k + 1, by omega, by go_num, Lib.hid ((DRel.more (wr := wr.drew) (HT.out.drewN 1) HR.out.1 HR.out.2.1 HR.out.2.2.drew (World.grownBy_alloc wr.drew _ none) (by decide) hown hgrow (hat.imp id (fun e => by rw [e]; simp))).cast (by rw [RT.out, app_one_if (by rw [LK.out]; rfl)]; exact congrArg (· ++ [y.k]) HKK.out.1) HKK.out.2.1 HKK.out.2.2)⟩
          | some x =>
            obtain ⟨jj, pl, _⟩ := (place_eq L y.k 0).2 x lk
            rw [pl, Nat.zero_add] at C
            have hj0 : (0 : Int) ≤ (jj : Int) := Int.natCast_nonneg _
            have LK := Lib.hid lk
            clear lk pl hy
            go_wp2_with ((with_reducible refine (C.out).mono ?_); rintro e w2 ⟨rfl, rfl⟩)
            go_roundw
            case rel => exact ⟨k + 1, by omega, by go_num, Lib.hid (HK.out.cast (by rw [RT.out, app_nil_if (by rw [LK.out]; rfl)]) rfl rfl)⟩
            case measure => simp [RowKit.intOf]; omega
        · have D2 : DRel w wr (remL M L) (remL L M) (chgL L M) := HK.out.cast (by rw [List.take_of_length_le (by rw [HN2.out]; omega)]) rfl rfl
          clear HK
          obtain ⟨⟨V, K, T, hA, hR, hC⟩, hb, hf, hkk⟩ := D2
          obtain ⟨b0, s0, q0⟩ := T.shape (i := 0) (by decide)
          obtain ⟨b1, s1, q1⟩ := T.shape (i := 1) (by decide)
          obtain ⟨b2, s2, q2⟩ := T.shape (i := 2) (by decide)
          have c0 := T.cell 0 (by decide)
          have c1 := T.cell 1 (by decide)
          have c2 := T.cell 2 (by decide)
          rw [q0] at c0
          rw [q1] at c1
          rw [q2] at c2
          have r0 := hb 0 (by decide)
          have r1 := hb 1 (by decide)
          have r2 := hb 2 (by decide)
          have f0 := hf 0
          have f1 := hf 1
          have f2 := hf 2
          have HT := Lib.hid T
          have HKK := Lib.hid (And.intro hA (And.intro hR hC))
          have HR := Lib.hid hkk
          have HQ := Lib.hid (And.intro q0 (And.intro q1 q2))
          clear T hA hR hC hb hf hkk q0 q1 q2
          generalize (K 0).length = l0 at *
          generalize (K 1).length = l1 at *
          generalize (K 2).length = l2 at *
          go_wp2
          have TF := ((HT.out.far (sc_by _ w.heap.size 0 (.slice b0 l0 s0)) (by omega)).far (sc_by _ w.heap.size 1 (.slice b1 l1 s1)) (by omega)).far (sc_by _ w.heap.size 2 (.slice b2 l2 s2)) (by omega)
          have k0 := own_klst (TF.own 0 (by decide))
          have k1 := own_klst (TF.own 1 (by decide))
          have k2 := own_klst (TF.own 2 (by decide))
          rw [HQ.out.1, HKK.out.1] at k0
          rw [HQ.out.2.1, HKK.out.2.1] at k1
          rw [HQ.out.2.2, HKK.out.2.2] at k2
          exact bodyPost_ret (v := .agg #[.slice b0 l0 s0, .slice b1 l1 s1, .slice b2 l2 s2]) (by simp [results, Try.results19, go_sem, r0, r1, r2]) rfl ⟨_, rfl, ⟨_, _, _, rfl, k0, k1, k2⟩, ((HR.out.setCell (by simp) _).setCell (by simp) _).setCell (by simp) _⟩
theorem vdiff_any (v1 v2 : Value) (L M : List Bd) (w : World) (h1 : Lst w v1 L) (h2 : Lst w v2 M) (m1 : L.length ≤ 1000000) (m2 : M.length ≤ 1000000) :
    Calls Try.prog 19 #[v1, v2] w fun e w' => ∃ v', e = .returned v' ∧ CLst w' v' (diffC L M) ∧ Kep w.heap.size w w' := by
  obtain ⟨base1, cap1, rfl⟩ := h1.shape
  obtain ⟨base2, cap2, rfl⟩ := h2.shape
  exact diff_any base1 base2 cap1 cap2 L M w h1 h2 m1 m2
end Go.Proofs.Ytlfbiijillpnnaa
