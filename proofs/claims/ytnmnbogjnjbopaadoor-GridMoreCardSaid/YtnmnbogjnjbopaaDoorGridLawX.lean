/-
  Package grid: the law GridMore.
-/
import Derived.Test.YtnmnbogjnjbopaaDoorGridFill
import Derived.Deep.DeepCutAuto
namespace Go.Proofs.YtnmnbogjnjbopaaDoor
open Go.RowKit Go.Lib

theorem ent_one (W : World) (xk xa xb xc xd : Int) (t : TypeId) (b : Nat) (hb : b = W.heap.size) : Sq ev 5 (W.alloc (.cells #[.int .u32 xk, .int .i32 xa, .int .i32 xb, .int .i32 xc, .int .i32 xd] t)) (.slice (some ⟨b, 0, none⟩) 1 1) [⟨xk, xa, xb, xc, xd⟩] := sq_new ev_len W _ _ rfl t b hb 1 1 rfl
theorem more_mem {L : List Ent} {x : Ent} {p : Int × Int} (h : p ∈ candL L) : (candL (L ++ [x])).contains p = true := by
  rw [List.contains_iff_mem, (candL_spec _).2]
  obtain ⟨a, ha, b, hb, hc, rfl⟩ := ((candL_spec L).2 p).1 h
  exact ⟨a, List.mem_append_left _ ha, b, List.mem_append_left _ hb, hc, rfl⟩
theorem more_only {L : List Ent} {x : Ent} {p : Int × Int} (h : p ∈ candL (L ++ [x])) (hn : (candL L).contains p = false) : p.1 = x.k ∨ p.2 = x.k := by
  obtain ⟨a, ha, b, hb, hc, rfl⟩ := ((candL_spec _).2 p).1 h
  rcases List.mem_append.1 ha with ha | ha
  · rcases List.mem_append.1 hb with hb | hb
    · exfalso
      have : (a.k, b.k) ∈ candL L := ((candL_spec L).2 _).2 ⟨a, ha, b, hb, hc, rfl⟩
      rw [← List.contains_iff_mem, hn] at this
      cases this
    · rw [List.mem_singleton.1 hb]
      exact .inr rfl
  · rw [List.mem_singleton.1 ha]
    exact .inl rfl
set_option maxRecDepth 100000 in
set_option maxHeartbeats 2000000 in
theorem gol_bad (AW : Hid GAwake) (xk xa xb xc xd : Int) (_hxf : FitE (⟨xk, xa, xb, xc, xd⟩ : Ent)) (_hxu : (Lit.int .u32 xk).wf = true) (L : List Ent) (hl9 : L.length ≤ 9223372036854775807) (HF : Hid (∀ x ∈ L, FitE x)) (v : Value) (w : World) (F0 : Fac w) (hq : Sq ev 5 w v L) (hfew : fewB L = false) : Calls Tryd.prog 7 #[v, .agg #[.int .u32 xk, .int .i32 xa, .int .i32 xb, .int .i32 xc, .int .i32 xd]] w fun e w' => e = .returned (.bool true) ∧ Kep w.heap.size w w' := by
  obtain ⟨base, cap, rfl⟩ := hq.shape
  have HQ := Lib.hid hq
  clear hq
  have FW : Hid (∀ v w, Sq ev 5 w v L → Calls Tryd.prog 14 #[v] w fun e w' => e = .returned (.bool false) ∧ Kep w.heap.size w w') := Lib.hid (fun v w h => by have := rfw L hl9 HF v w h; rw [hfew] at this; exact this)
  go_enter Tryd.func7, Tryd.ntmps7
  go_wp2_with (first
    | ((with_reducible refine (AW.out _ (F0.kep (by (repeat (first | with_reducible assumption | refine kep_more ?_ _ | refine kep_drew ?_ | exact Kep.refl _ _))))).mono ?_); rintro e w1 ⟨rfl, g1⟩
       first
         | (replace gg := kep_next gg g1)
         | (have e0 := Kep.all g1 (a := ⟨w.heap.size, 0, none⟩) (v := .int .u32 xk) (by (repeat (first | rw [World.cell?_drew] | rw [World.cell?_alloc_past _ _ _ (by first | (simp; done) | (simp; omega))])); rw [World.cell?_alloc_at _ _ _ _ (by simp)]; rfl)
            have e1 := Kep.all g1 (a := ⟨w.heap.size, 1, none⟩) (v := .int .i32 xa) (by (repeat (first | rw [World.cell?_drew] | rw [World.cell?_alloc_past _ _ _ (by first | (simp; done) | (simp; omega))])); rw [World.cell?_alloc_at _ _ _ _ (by simp)]; rfl)
            have e2 := Kep.all g1 (a := ⟨w.heap.size, 2, none⟩) (v := .int .i32 xb) (by (repeat (first | rw [World.cell?_drew] | rw [World.cell?_alloc_past _ _ _ (by first | (simp; done) | (simp; omega))])); rw [World.cell?_alloc_at _ _ _ _ (by simp)]; rfl)
            have e3 := Kep.all g1 (a := ⟨w.heap.size, 3, none⟩) (v := .int .i32 xc) (by (repeat (first | rw [World.cell?_drew] | rw [World.cell?_alloc_past _ _ _ (by first | (simp; done) | (simp; omega))])); rw [World.cell?_alloc_at _ _ _ _ (by simp)]; rfl)
            have e4 := Kep.all g1 (a := ⟨w.heap.size, 4, none⟩) (v := .int .i32 xd) (by (repeat (first | rw [World.cell?_drew] | rw [World.cell?_alloc_past _ _ _ (by first | (simp; done) | (simp; omega))])); rw [World.cell?_alloc_at _ _ _ _ (by simp)]; rfl)
            have gg := kep_next (kep_more (Kep.refl _ _) _) g1
            have ql := HQ.out.kep (kep_next (kep_more (Kep.refl _ _) _) g1)))
    | ((with_reducible refine (FW.out _ _ ql).mono ?_); rintro e w2 ⟨rfl, g2⟩
       replace ql := ql.kep g2
       replace e0 := Kep.all g2 (a := ⟨w.heap.size, 0, none⟩) (v := .int .u32 xk) e0
       replace e1 := Kep.all g2 (a := ⟨w.heap.size, 1, none⟩) (v := .int .i32 xa) e1
       replace e2 := Kep.all g2 (a := ⟨w.heap.size, 2, none⟩) (v := .int .i32 xb) e2
       replace e3 := Kep.all g2 (a := ⟨w.heap.size, 3, none⟩) (v := .int .i32 xc) e3
       replace e4 := Kep.all g2 (a := ⟨w.heap.size, 4, none⟩) (v := .int .i32 xd) e4
       replace gg := kep_next gg g2
       have ze_w2 : w.heap.size < w2.heap.size := World.block_lt_of_cell? _ _ e0))
  go_ret
  exact ⟨rfl, gg⟩
set_option maxRecDepth 100000 in
set_option maxHeartbeats 2000000 in
theorem gol_bad2 (AW : Hid GAwake) (xk xa xb xc xd : Int) (hxf : FitE (⟨xk, xa, xb, xc, xd⟩ : Ent)) (_hxu : (Lit.int .u32 xk).wf = true) (L : List Ent) (hl9 : L.length ≤ 9223372036854775807) (HF : Hid (∀ x ∈ L, FitE x)) (v : Value) (w : World) (F0 : Fac w) (hq : Sq ev 5 w v L) (hfew : fewB L = true) (hfx : fewB [(⟨xk, xa, xb, xc, xd⟩ : Ent)] = false) : Calls Tryd.prog 7 #[v, .agg #[.int .u32 xk, .int .i32 xa, .int .i32 xb, .int .i32 xc, .int .i32 xd]] w fun e w' => e = .returned (.bool true) ∧ Kep w.heap.size w w' := by
  obtain ⟨base, cap, rfl⟩ := hq.shape
  have HQ := Lib.hid hq
  clear hq
  have FW : Hid (∀ v w, Sq ev 5 w v L → Calls Tryd.prog 14 #[v] w fun e w' => e = .returned (.bool true) ∧ Kep w.heap.size w w') := Lib.hid (fun v w h => by have := rfw L hl9 HF v w h; rw [hfew] at this; exact this)
  have FX : Hid (∀ v w, Sq ev 5 w v [(⟨xk, xa, xb, xc, xd⟩ : Ent)] → Calls Tryd.prog 14 #[v] w fun e w' => e = .returned (.bool false) ∧ Kep w.heap.size w w') := Lib.hid (fun v w h => by have := rfw [(⟨xk, xa, xb, xc, xd⟩ : Ent)] (by simp) (Lib.hid (fun y hy => by rw [List.mem_singleton.1 hy]; exact hxf)) v w h; rw [hfx] at this; exact this)
  go_enter Tryd.func7, Tryd.ntmps7
  go_wp2_with (first
    | ((with_reducible refine (AW.out _ (F0.kep (by (repeat (first | with_reducible assumption | refine kep_more ?_ _ | refine kep_drew ?_ | exact Kep.refl _ _))))).mono ?_); rintro e w1 ⟨rfl, g1⟩
       first
         | (replace gg := kep_next gg g1)
         | (have e0 := Kep.all g1 (a := ⟨w.heap.size, 0, none⟩) (v := .int .u32 xk) (by (repeat (first | rw [World.cell?_drew] | rw [World.cell?_alloc_past _ _ _ (by first | (simp; done) | (simp; omega))])); rw [World.cell?_alloc_at _ _ _ _ (by simp)]; rfl)
            have e1 := Kep.all g1 (a := ⟨w.heap.size, 1, none⟩) (v := .int .i32 xa) (by (repeat (first | rw [World.cell?_drew] | rw [World.cell?_alloc_past _ _ _ (by first | (simp; done) | (simp; omega))])); rw [World.cell?_alloc_at _ _ _ _ (by simp)]; rfl)
            have e2 := Kep.all g1 (a := ⟨w.heap.size, 2, none⟩) (v := .int .i32 xb) (by (repeat (first | rw [World.cell?_drew] | rw [World.cell?_alloc_past _ _ _ (by first | (simp; done) | (simp; omega))])); rw [World.cell?_alloc_at _ _ _ _ (by simp)]; rfl)
            have e3 := Kep.all g1 (a := ⟨w.heap.size, 3, none⟩) (v := .int .i32 xc) (by (repeat (first | rw [World.cell?_drew] | rw [World.cell?_alloc_past _ _ _ (by first | (simp; done) | (simp; omega))])); rw [World.cell?_alloc_at _ _ _ _ (by simp)]; rfl)
            have e4 := Kep.all g1 (a := ⟨w.heap.size, 4, none⟩) (v := .int .i32 xd) (by (repeat (first | rw [World.cell?_drew] | rw [World.cell?_alloc_past _ _ _ (by first | (simp; done) | (simp; omega))])); rw [World.cell?_alloc_at _ _ _ _ (by simp)]; rfl)
            have gg := kep_next (kep_more (Kep.refl _ _) _) g1
            have ql := HQ.out.kep (kep_next (kep_more (Kep.refl _ _) _) g1)))
    | ((with_reducible refine (FW.out _ _ ql).mono ?_); rintro e w2 ⟨rfl, g2⟩
       replace ql := ql.kep g2
       replace e0 := Kep.all g2 (a := ⟨w.heap.size, 0, none⟩) (v := .int .u32 xk) e0
       replace e1 := Kep.all g2 (a := ⟨w.heap.size, 1, none⟩) (v := .int .i32 xa) e1
       replace e2 := Kep.all g2 (a := ⟨w.heap.size, 2, none⟩) (v := .int .i32 xb) e2
       replace e3 := Kep.all g2 (a := ⟨w.heap.size, 3, none⟩) (v := .int .i32 xc) e3
       replace e4 := Kep.all g2 (a := ⟨w.heap.size, 4, none⟩) (v := .int .i32 xd) e4
       replace gg := kep_next gg g2
       have ze_w2 : w.heap.size < w2.heap.size := World.block_lt_of_cell? _ _ e0)
    | ((with_reducible refine (FX.out _ _ (ent_one _ xk xa xb xc xd _ _ (by first | rfl | simp))).mono ?_); rintro e w3 ⟨rfl, g3⟩
       replace ql := ql.kep (kep_next (kep_more (Kep.refl _ _) _) g3)
       replace e0 := Kep.all g3 (a := ⟨w.heap.size, 0, none⟩) (v := .int .u32 xk) (Kep.all (kep_more (Kep.refl _ _) _) e0)
       replace e1 := Kep.all g3 (a := ⟨w.heap.size, 1, none⟩) (v := .int .i32 xa) (Kep.all (kep_more (Kep.refl _ _) _) e1)
       replace e2 := Kep.all g3 (a := ⟨w.heap.size, 2, none⟩) (v := .int .i32 xb) (Kep.all (kep_more (Kep.refl _ _) _) e2)
       replace e3 := Kep.all g3 (a := ⟨w.heap.size, 3, none⟩) (v := .int .i32 xc) (Kep.all (kep_more (Kep.refl _ _) _) e3)
       replace e4 := Kep.all g3 (a := ⟨w.heap.size, 4, none⟩) (v := .int .i32 xd) (Kep.all (kep_more (Kep.refl _ _) _) e4)
       replace gg := kep_next (kep_more gg _) g3
       have ze_w3 : w.heap.size < w3.heap.size := World.block_lt_of_cell? _ _ e0))
  go_ret
  exact ⟨rfl, gg⟩
set_option maxRecDepth 100000 in
set_option maxHeartbeats 8000000 in
theorem gol_ok {GI : World → Nat → (Nat → Prop) → List Ent → Prop} (O : GOps GI) (AW : Hid GAwake) (xk xa xb xc xd : Int) (hxf : FitE (⟨xk, xa, xb, xc, xd⟩ : Ent)) (hxu : (Lit.int .u32 xk).wf = true) (L : List Ent) (hl9 : L.length ≤ 9223372036854775807) (HF : Hid (∀ x ∈ L, FitE x)) (v : Value) (w : World) (F0 : Fac w) (hq : Sq ev 5 w v L) (HU : Hid (∀ x ∈ L, (Lit.int .u32 x.k).wf = true)) (hfew : fewB L = true) (hfx : fewB [(⟨xk, xa, xb, xc, xd⟩ : Ent)] = true) : Calls Tryd.prog 7 #[v, .agg #[.int .u32 xk, .int .i32 xa, .int .i32 xb, .int .i32 xc, .int .i32 xd]] w fun e w' => e = .returned (.bool true) ∧ Kep w.heap.size w w' := by
  obtain ⟨base, cap, rfl⟩ := hq.shape
  have HQ := Lib.hid hq
  clear hq
  have FW : Hid (∀ v w, Sq ev 5 w v L → Calls Tryd.prog 14 #[v] w fun e w' => e = .returned (.bool true) ∧ Kep w.heap.size w w') := Lib.hid (fun v w h => by have := rfw L hl9 HF v w h; rw [hfew] at this; exact this)
  have FX : Hid (∀ v w, Sq ev 5 w v [(⟨xk, xa, xb, xc, xd⟩ : Ent)] → Calls Tryd.prog 14 #[v] w fun e w' => e = .returned (.bool true) ∧ Kep w.heap.size w w') := Lib.hid (fun v w h => by have := rfw [(⟨xk, xa, xb, xc, xd⟩ : Ent)] (by simp) (Lib.hid (fun y hy => by rw [List.mem_singleton.1 hy]; exact hxf)) v w h; rw [hfx] at this; exact this)
  obtain ⟨hm, hcl⟩ := few_ok hfew
  have HOK : Hid (∀ x ∈ L, EntOk x) := Lib.hid (fun x hx => ⟨HU.out x hx, HF.out x hx, hcl x hx⟩)
  have HOX : Hid (EntOk (⟨xk, xa, xb, xc, xd⟩ : Ent)) := Lib.hid ⟨hxu, hxf, (few_ok hfx).2 _ (by simp)⟩
  have HOK2 : Hid (∀ x ∈ L ++ [(⟨xk, xa, xb, xc, xd⟩ : Ent)], EntOk x) := Lib.hid (fun x hx => by rcases List.mem_append.1 hx with hx | hx; exact HOK.out x hx; rw [List.mem_singleton.1 hx]; exact HOX.out)
  clear hcl hxu
  go_enter Tryd.func7, Tryd.ntmps7
  go_wp2_with (first
    | ((with_reducible refine (AW.out _ (F0.kep (by (repeat (first | with_reducible assumption | refine kep_more ?_ _ | refine kep_drew ?_ | exact Kep.refl _ _))))).mono ?_); rintro e w1 ⟨rfl, g1⟩
       have e0 := Kep.all g1 (a := ⟨w.heap.size, 0, none⟩) (v := .int .u32 xk) (by (repeat (first | rw [World.cell?_drew] | rw [World.cell?_alloc_past _ _ _ (by first | (simp; done) | (simp; omega))])); rw [World.cell?_alloc_at _ _ _ _ (by simp)]; rfl)
       have e1 := Kep.all g1 (a := ⟨w.heap.size, 1, none⟩) (v := .int .i32 xa) (by (repeat (first | rw [World.cell?_drew] | rw [World.cell?_alloc_past _ _ _ (by first | (simp; done) | (simp; omega))])); rw [World.cell?_alloc_at _ _ _ _ (by simp)]; rfl)
       have e2 := Kep.all g1 (a := ⟨w.heap.size, 2, none⟩) (v := .int .i32 xb) (by (repeat (first | rw [World.cell?_drew] | rw [World.cell?_alloc_past _ _ _ (by first | (simp; done) | (simp; omega))])); rw [World.cell?_alloc_at _ _ _ _ (by simp)]; rfl)
       have e3 := Kep.all g1 (a := ⟨w.heap.size, 3, none⟩) (v := .int .i32 xc) (by (repeat (first | rw [World.cell?_drew] | rw [World.cell?_alloc_past _ _ _ (by first | (simp; done) | (simp; omega))])); rw [World.cell?_alloc_at _ _ _ _ (by simp)]; rfl)
       have e4 := Kep.all g1 (a := ⟨w.heap.size, 4, none⟩) (v := .int .i32 xd) (by (repeat (first | rw [World.cell?_drew] | rw [World.cell?_alloc_past _ _ _ (by first | (simp; done) | (simp; omega))])); rw [World.cell?_alloc_at _ _ _ _ (by simp)]; rfl)
       have gg := kep_next (kep_more (Kep.refl _ _) _) g1
       have ql := HQ.out.kep (kep_next (kep_more (Kep.refl _ _) _) g1)
       have ze_w1 : w.heap.size < w1.heap.size := World.block_lt_of_cell? _ _ e0)
    | ((with_reducible refine (FW.out _ _ ql).mono ?_); rintro e w2 ⟨rfl, g2⟩
       replace ql := ql.kep g2
       replace e0 := Kep.all g2 (a := ⟨w.heap.size, 0, none⟩) (v := .int .u32 xk) e0
       replace e1 := Kep.all g2 (a := ⟨w.heap.size, 1, none⟩) (v := .int .i32 xa) e1
       replace e2 := Kep.all g2 (a := ⟨w.heap.size, 2, none⟩) (v := .int .i32 xb) e2
       replace e3 := Kep.all g2 (a := ⟨w.heap.size, 3, none⟩) (v := .int .i32 xc) e3
       replace e4 := Kep.all g2 (a := ⟨w.heap.size, 4, none⟩) (v := .int .i32 xd) e4
       replace gg := kep_next gg g2
       have ze_w2 : w.heap.size < w2.heap.size := World.block_lt_of_cell? _ _ e0)
    | ((with_reducible refine (FX.out _ _ (ent_one _ xk xa xb xc xd _ _ (by first | rfl | simp))).mono ?_); rintro e w3 ⟨rfl, g3⟩
       replace ql := ql.kep (kep_next (kep_more (Kep.refl _ _) _) g3)
       replace e0 := Kep.all g3 (a := ⟨w.heap.size, 0, none⟩) (v := .int .u32 xk) (Kep.all (kep_more (Kep.refl _ _) _) e0)
       replace e1 := Kep.all g3 (a := ⟨w.heap.size, 1, none⟩) (v := .int .i32 xa) (Kep.all (kep_more (Kep.refl _ _) _) e1)
       replace e2 := Kep.all g3 (a := ⟨w.heap.size, 2, none⟩) (v := .int .i32 xb) (Kep.all (kep_more (Kep.refl _ _) _) e2)
       replace e3 := Kep.all g3 (a := ⟨w.heap.size, 3, none⟩) (v := .int .i32 xc) (Kep.all (kep_more (Kep.refl _ _) _) e3)
       replace e4 := Kep.all g3 (a := ⟨w.heap.size, 4, none⟩) (v := .int .i32 xd) (Kep.all (kep_more (Kep.refl _ _) _) e4)
       replace gg := kep_next (kep_more gg _) g3
       have ze_w3 : w.heap.size < w3.heap.size := World.block_lt_of_cell? _ _ e0
       have gg0 : w.heap.size < w3.heap.size := ze_w3)
    | (refine (fill_any O w3.heap.size (fun k => k = w3.heap.size) [] L _ _ (O.new w3 (F0.kep gg)) (ql.kep (kep_more (Kep.refl _ _) _)) (fun hl => off_ge ev_len (by decide) ql (fun k q => by omega) hl) HOK.out (by simp; omega)).mono ?_; rintro e w4 ⟨⟨u, rfl⟩, S4, hgi, hm4, ho4⟩
       have g4 : Kep w3.heap.size w3 w4 := (kep_more (Kep.refl _ _) _).trans (ho4.kep (by simp) (fun k q => by omega))
       rw [List.nil_append] at hgi
       have HS4 : Hid (∀ k, S4 k → w3.heap.size ≤ k) := Lib.hid (fun k q => by rcases hm4 k q with q | q; omega; simp at q; omega)
       replace ql := ql.kep g4
       replace e0 := Kep.all g4 (a := ⟨w.heap.size, 0, none⟩) (v := .int .u32 xk) e0
       replace e1 := Kep.all g4 (a := ⟨w.heap.size, 1, none⟩) (v := .int .i32 xa) e1
       replace e2 := Kep.all g4 (a := ⟨w.heap.size, 2, none⟩) (v := .int .i32 xb) e2
       replace e3 := Kep.all g4 (a := ⟨w.heap.size, 3, none⟩) (v := .int .i32 xc) e3
       replace e4 := Kep.all g4 (a := ⟨w.heap.size, 4, none⟩) (v := .int .i32 xd) e4
       replace gg := kep_next gg g4
       have ze_w4 : w.heap.size < w4.heap.size := World.block_lt_of_cell? _ _ e0)
    | (refine (O.cand w3.heap.size S4 L _ hgi HOK.out (by omega)).mono ?_; rintro e w5 ⟨c1, rfl, ⟨qc, fc⟩, g5⟩
       have HOFF : Hid (Off S4 c1) := Lib.hid (fun j e s => by have := fc j e; have := O.lt hgi j s; omega)
       replace hgi := O.kep hgi g5
       clear ql
       replace e0 := Kep.all g5 (a := ⟨w.heap.size, 0, none⟩) (v := .int .u32 xk) e0
       replace e1 := Kep.all g5 (a := ⟨w.heap.size, 1, none⟩) (v := .int .i32 xa) e1
       replace e2 := Kep.all g5 (a := ⟨w.heap.size, 2, none⟩) (v := .int .i32 xb) e2
       replace e3 := Kep.all g5 (a := ⟨w.heap.size, 3, none⟩) (v := .int .i32 xc) e3
       replace e4 := Kep.all g5 (a := ⟨w.heap.size, 4, none⟩) (v := .int .i32 xd) e4
       replace gg := kep_next gg g5
       have ze_w5 : w.heap.size < w5.heap.size := World.block_lt_of_cell? _ _ e0)
    | (refine (fill_any O w3.heap.size S4 L [(⟨xk, xa, xb, xc, xd⟩ : Ent)] _ _ (O.kep hgi (kep_more (Kep.refl _ _) _)) (ent_one _ xk xa xb xc xd _ _ (by first | rfl | simp)) (fun _ j e s => by have := O.lt hgi j s; simp [Value.ownBlock] at e; omega) (fun y hy => by rw [List.mem_singleton.1 hy]; exact HOX.out) (by simp; omega)).mono ?_; rintro e w6 ⟨⟨u, rfl⟩, S6, hgj, hm6, ho6⟩
       replace qc := (qc.kep (kep_more (Kep.refl _ _) _)).oth (fun _ => HOFF.out) ho6
       have hn0 : ¬ S4 w.heap.size := fun s => by have := HS4.out _ s; have := gg0; omega
       replace e0 := ho6.cell hn0 (Kep.all (kep_more (Kep.refl _ _) _) e0)
       replace e1 := ho6.cell hn0 (Kep.all (kep_more (Kep.refl _ _) _) e1)
       replace e2 := ho6.cell hn0 (Kep.all (kep_more (Kep.refl _ _) _) e2)
       replace e3 := ho6.cell hn0 (Kep.all (kep_more (Kep.refl _ _) _) e3)
       replace e4 := ho6.cell hn0 (Kep.all (kep_more (Kep.refl _ _) _) e4)
       replace gg := (kep_more gg _).trans (ho6.kep (by have := gg.size; simp; omega) (fun k s => by have := HS4.out k s; have := gg0; omega))
       have ze_w6 : w.heap.size < w6.heap.size := World.block_lt_of_cell? _ _ e0)
    | (refine (O.cand w3.heap.size S6 (L ++ [(⟨xk, xa, xb, xc, xd⟩ : Ent)]) _ hgj HOK2.out (by simp; omega)).mono ?_; rintro e w7 ⟨c2, rfl, ⟨qd, fd⟩, g7⟩
       replace qc := qc.kep g7
       clear fd
       replace e0 := Kep.all g7 (a := ⟨w.heap.size, 0, none⟩) (v := .int .u32 xk) e0
       replace e1 := Kep.all g7 (a := ⟨w.heap.size, 1, none⟩) (v := .int .i32 xa) e1
       replace e2 := Kep.all g7 (a := ⟨w.heap.size, 2, none⟩) (v := .int .i32 xb) e2
       replace e3 := Kep.all g7 (a := ⟨w.heap.size, 3, none⟩) (v := .int .i32 xc) e3
       replace e4 := Kep.all g7 (a := ⟨w.heap.size, 4, none⟩) (v := .int .i32 xd) e4
       replace gg := kep_next gg g7
       have ze_w7 : w.heap.size < w7.heap.size := World.block_lt_of_cell? _ _ e0))
  clear e1 e2 e3 e4
  have HX0 := Lib.hid e0
  clear e0
  have G0 := Lib.hid gg
  clear gg
  have HQC := Lib.hid qc
  have HQD := Lib.hid qd
  obtain ⟨bc, cc, rfl, hc⟩ := qc
  obtain ⟨bd, cd, rfl, hd⟩ := qd
  have HC := Lib.hid hc
  have HD := Lib.hid hd
  clear hc hd
  obtain ⟨C, hC⟩ : ∃ C, C = candL L := ⟨_, rfl⟩
  obtain ⟨D, hD⟩ : ∃ D, D = candL (L ++ [(⟨xk, xa, xb, xc, xd⟩ : Ent)]) := ⟨_, rfl⟩
  have hlC : C.length ≤ 1600 := by rw [hC]; exact candL_len hm
  have hlD : D.length ≤ 10000000 := by
    rw [hD, ← accO_all (Nat.le_refl _)]
    have h1 := accO_len (L ++ [(⟨xk, xa, xb, xc, xd⟩ : Ent)]) _ (Nat.le_refl _)
    have h2 : (L ++ [(⟨xk, xa, xb, xc, xd⟩ : Ent)]).length ≤ 41 := by simp; omega
    have h3 := Nat.mul_le_mul h2 h2
    omega
  have HM1 : Hid (∀ p ∈ C, D.contains p = true) := Lib.hid (fun p hp => by rw [hD]; exact more_mem (by rw [← hC]; exact hp))
  have HM2 : Hid (∀ p ∈ D, C.contains p = false → p.1 = xk ∨ p.2 = xk) := Lib.hid (fun p hp hn => more_only (x := (⟨xk, xa, xb, xc, xd⟩ : Ent)) (by rw [← hD]; exact hp) (by rw [← hC]; exact hn))
  rw [← hC] at HQC HC ⊢
  rw [← hD] at HQD HD ⊢
  have RD := Lib.hid (fun pa pb => rha D pa pb (by omega))
  have RC := Lib.hid (fun pa pb => rha C pa pb (by omega))
  clear hC hD
  generalize hnc : C.length = nc at *
  generalize hnd : D.length = nd at *
  have HNC := Lib.hid hnc
  have HND := Lib.hid hnd
  clear hnc hnd
  go_wp2_with fail
  go_loopw [8] (fun i wr => ∃ k : Nat, k ≤ nc ∧ i = .int .i64 k ∧ Hid (Kep w7.heap.size w7 wr)) (fun i _ => nc - (RowKit.intOf i).toNat)
  case atStart => exact ⟨0, by omega, rfl, Lib.hid (Kep.refl _ _)⟩
  case round =>
    obtain ⟨k, hk, rfl, HK⟩ := hrel
    by_cases hlt : k < nc
    · have hb : C[k]? = some (C[k]'(by rw [HNC.out]; exact hlt)) := List.getElem?_eq_getElem _
      generalize C[k]'(by rw [HNC.out]; exact hlt) = p at hb
      obtain ⟨gl, off, rfl, q⟩ := HC.out k p hb
      obtain ⟨ta, tb⟩ := p
      have t0 : wr.cell? ⟨gl, off + k * 2, none⟩ = some (.int .u32 ta) := HK.out.all (q 0 _ rfl)
      have t1 : wr.cell? ⟨gl, off + k * 2 + 1, none⟩ = some (.int .u32 tb) := HK.out.all (q 1 _ rfl)
      have HR : Hid (∀ v w, Sq pv 2 w v D → Calls Tryd.prog 25 #[v, .agg #[.int .u32 ta, .int .u32 tb]] w fun e w' => e = .returned (.bool true) ∧ Kep w.heap.size w w') := Lib.hid (fun v w h => by have := RD.out ta tb v w h; rw [HM1.out _ (List.mem_of_getElem? hb)] at this; exact this)
      clear hb q
      go_wp2_with ((with_reducible refine (HR.out _ _ (HQD.out.kep HK.out)).mono ?_); rintro e w9 ⟨rfl, g9⟩)
      go_roundw
      case rel => exact ⟨k + 1, by omega, by go_num, Lib.hid (kep_next HK.out g9)⟩
      case measure => simp [RowKit.intOf]; omega
    · go_wp2_with fail
      have HK1 := HK
      obtain ⟨wd, hwd⟩ : ∃ x, x = wr := ⟨_, rfl⟩
      subst hwd
      go_loopw [9] (fun i wr => ∃ k : Nat, k ≤ nd ∧ i = .int .i64 k ∧ Hid (Kep w7.heap.size w7 wr)) (fun i _ => nd - (RowKit.intOf i).toNat)
      case atStart => exact ⟨0, by omega, rfl, HK1⟩
      case round =>
        obtain ⟨k, hk, rfl, HK⟩ := hrel
        by_cases hlt : k < nd
        · have hb : D[k]? = some (D[k]'(by rw [HND.out]; exact hlt)) := List.getElem?_eq_getElem _
          generalize D[k]'(by rw [HND.out]; exact hlt) = p at hb
          obtain ⟨gl, off, rfl, q⟩ := HD.out k p hb
          obtain ⟨ta, tb⟩ := p
          have gg := HK.out
          have t0 : wr.cell? ⟨gl, off + k * 2, none⟩ = some (.int .u32 ta) := gg.all (q 0 _ rfl)
          have t1 : wr.cell? ⟨gl, off + k * 2 + 1, none⟩ = some (.int .u32 tb) := gg.all (q 1 _ rfl)
          have e0 := gg.all HX0.out
          have HB := Lib.hid (HM2.out _ (List.mem_of_getElem? hb))
          clear hb q
          obtain ⟨z, hz⟩ : ∃ z, C.contains (ta, tb) = z := ⟨_, rfl⟩
          have HR : Hid (∀ v w, Sq pv 2 w v C → Calls Tryd.prog 25 #[v, .agg #[.int .u32 ta, .int .u32 tb]] w fun e w' => e = .returned (.bool z) ∧ Kep w.heap.size w w') := Lib.hid (fun v w h => by have := RC.out ta tb v w h; rw [hz] at this; exact this)
          have HZ := Lib.hid hz
          clear hz
          cases z
          · by_cases hl : ta = xk
            · rw [hl] at t0 HR
              have q1 : (xk != xk) = false := by simp
              clear hl
              go_wp2_with fail
              refine wp_region_noPanic ?_
              refine wp_region_held_drew (S := (fun w' => w'.cell? ⟨gl, off + k * 2, none⟩ = some (.int .u32 xk) ∧ w'.cell? ⟨gl, off + k * 2 + 1, none⟩ = some (.int .u32 tb) ∧ w'.cell? ⟨w.heap.size, 0, none⟩ = some (.int .u32 xk) ∧ Kep w7.heap.size w7 w')) (by kernel_rfl) (⟨by rw [World.cell?_drew]; exact t0, by rw [World.cell?_drew]; exact t1, by rw [World.cell?_drew]; exact e0, kep_drew gg⟩) (fun hH => ?_)
              refine wpAnyH_take (i := 0) (oi := { dst := some 50, op := Op.move (Operand.tmp 6), type := _, pos := _, after := _, guard := none }) (v := ?_) rfl (by kernel_rfl) (by kernel_rfl) (by kernel_rfl) (fun _ _ _ h => h) (Or.inl ⟨by rfl, ?_⟩) hH ?_
              rotate_left
              · (intro w hSw; (try dsimp only at hSw); go_simp; (try with_reducible rfl))
              try simp only [Act.put, List.setIfInBounds_toArray, List.set_cons_zero, List.set_cons_succ]
              refine wpAnyH_take (i := 1) (oi := { dst := some 51, op := Op.move (Operand.tmp 7), type := _, pos := _, after := _, guard := none }) (v := ?_) rfl (by kernel_rfl) (by kernel_rfl) (by kernel_rfl) (fun _ _ _ h => h) (Or.inl ⟨by rfl, ?_⟩) hH ?_
              rotate_left
              · (intro w hSw; (try dsimp only at hSw); go_simp; (try with_reducible rfl))
              try simp only [Act.put, List.setIfInBounds_toArray, List.set_cons_zero, List.set_cons_succ]
              refine wpAnyH_take (i := 2) (oi := { dst := some 52, op := Op.move (Operand.tmp 9), type := _, pos := _, after := _, guard := none }) (v := ?_) rfl (by kernel_rfl) (by kernel_rfl) (by kernel_rfl) (fun _ _ _ h => h) (Or.inl ⟨by rfl, ?_⟩) hH ?_
              rotate_left
              · (intro w hSw; (try dsimp only at hSw); go_simp; (try with_reducible rfl))
              try simp only [Act.put, List.setIfInBounds_toArray, List.set_cons_zero, List.set_cons_succ]
              refine wpAnyH_take (i := 3) (oi := { dst := some 53, op := Op.indexAddr 35 (Operand.tmp 51) (Operand.tmp 52), type := _, pos := _, after := _, guard := none }) (v := ?_) rfl (by kernel_rfl) (by kernel_rfl) (by kernel_rfl) (fun _ _ _ h => h) (Or.inl ⟨by rfl, ?_⟩) hH ?_
              rotate_left
              · (intro w hSw; (try dsimp only at hSw); go_simp; (try with_reducible rfl))
              try simp only [Act.put, List.setIfInBounds_toArray, List.set_cons_zero, List.set_cons_succ]
              refine wpAnyH_take (i := 4) (oi := { dst := some 54, op := Op.load 44 (Operand.tmp 53), type := _, pos := _, after := _, guard := none }) (v := ?_) rfl (by kernel_rfl) (by kernel_rfl) (by kernel_rfl) (fun _ _ _ h => h) (Or.inl ⟨by rfl, ?_⟩) hH ?_
              rotate_left
              · (intro w hSw; (try dsimp only at hSw); go_simp; (try with_reducible rfl))
              try simp only [Act.put, List.setIfInBounds_toArray, List.set_cons_zero, List.set_cons_succ]
              refine wpAnyH_ready (rs := [5]) (by kernel_rfl) (by simp) ?_
              refine AllReadyH.cons (o := { dst := some 55, op := Op.call { callee := Callee.value (Operand.func 25), args := #[Operand.tmp 50, Operand.tmp 54], argTypes := #[35, 44] }, type := _, pos := _, after := _, guard := none }) rfl (fun K hK => ?_) AllReadyH.nil
              go_simp
              (with_reducible refine (HR.out _ _ (HQC.out.kep hH.2.2.2)).mono ?_); rintro e v16_5 ⟨rfl, g⟩
              refine hK.out _ _ (by (try dsimp only); (go_split_ands; exact ⟨Kep.all g (by assumption), Kep.all g (by assumption), Kep.all g (by assumption), kep_next (by assumption) g⟩)) (fun hH2 => ?_)
              clear hK K hH; have hH := hH2; clear hH2
              try simp only [Act.put, List.setIfInBounds_toArray, List.set_cons_zero, List.set_cons_succ]
              refine wpAnyH_take (i := 6) (oi := { dst := some 56, op := Op.unOp UnOp.not 4 (Operand.tmp 55), type := _, pos := _, after := _, guard := none }) (v := ?_) rfl (by kernel_rfl) (by kernel_rfl) (by kernel_rfl) (fun _ _ _ h => h) (Or.inl ⟨by rfl, ?_⟩) hH ?_
              rotate_left
              · (intro w hSw; (try dsimp only at hSw); go_simp; (try with_reducible rfl))
              try simp only [Act.put, List.setIfInBounds_toArray, List.set_cons_zero, List.set_cons_succ]
              refine wpAnyH_take (i := 7) (oi := { dst := some 57, op := Op.move (Operand.tmp 56), type := _, pos := _, after := _, guard := none }) (v := ?_) rfl (by kernel_rfl) (by kernel_rfl) (by kernel_rfl) (fun _ _ _ h => h) (Or.inl ⟨by rfl, ?_⟩) hH ?_
              rotate_left
              · (intro w hSw; (try dsimp only at hSw); go_simp; (try with_reducible rfl))
              try simp only [Act.put, List.setIfInBounds_toArray, List.set_cons_zero, List.set_cons_succ]
              refine wpAnyH_take (i := 8) (oi := { dst := some 58, op := Op.move (Operand.tmp 7), type := _, pos := _, after := _, guard := some (7, true) }) (v := ?_) rfl (by kernel_rfl) (by kernel_rfl) (by kernel_rfl) (fun _ _ _ h => h) (Or.inl ⟨by rfl, ?_⟩) hH ?_
              rotate_left
              · (intro w hSw; (try dsimp only at hSw); go_simp; (try with_reducible rfl))
              try simp only [Act.put, List.setIfInBounds_toArray, List.set_cons_zero, List.set_cons_succ]
              refine wpAnyH_take (i := 9) (oi := { dst := some 59, op := Op.move (Operand.tmp 9), type := _, pos := _, after := _, guard := some (7, true) }) (v := ?_) rfl (by kernel_rfl) (by kernel_rfl) (by kernel_rfl) (fun _ _ _ h => h) (Or.inl ⟨by rfl, ?_⟩) hH ?_
              rotate_left
              · (intro w hSw; (try dsimp only at hSw); go_simp; (try with_reducible rfl))
              try simp only [Act.put, List.setIfInBounds_toArray, List.set_cons_zero, List.set_cons_succ]
              refine wpAnyH_take (i := 10) (oi := { dst := some 60, op := Op.indexAddr 35 (Operand.tmp 58) (Operand.tmp 59), type := _, pos := _, after := _, guard := some (7, true) }) (v := ?_) rfl (by kernel_rfl) (by kernel_rfl) (by kernel_rfl) (fun _ _ _ h => h) (Or.inl ⟨by rfl, ?_⟩) hH ?_
              rotate_left
              · (intro w hSw; (try dsimp only at hSw); go_simp; (try with_reducible rfl))
              try simp only [Act.put, List.setIfInBounds_toArray, List.set_cons_zero, List.set_cons_succ]
              refine wpAnyH_take (i := 11) (oi := { dst := some 61, op := Op.fieldAddr 44 (Operand.tmp 60) 0, type := _, pos := _, after := _, guard := some (7, true) }) (v := ?_) rfl (by kernel_rfl) (by kernel_rfl) (by kernel_rfl) (fun _ _ _ h => h) (Or.inl ⟨by rfl, ?_⟩) hH ?_
              rotate_left
              · (intro w hSw; (try dsimp only at hSw); go_simp; (try with_reducible rfl))
              try simp only [Act.put, List.setIfInBounds_toArray, List.set_cons_zero, List.set_cons_succ]
              refine wpAnyH_take (i := 12) (oi := { dst := some 62, op := Op.load 42 (Operand.tmp 61), type := _, pos := _, after := _, guard := some (7, true) }) (v := ?_) rfl (by kernel_rfl) (by kernel_rfl) (by kernel_rfl) (fun _ _ _ h => h) (Or.inl ⟨by rfl, ?_⟩) hH ?_
              rotate_left
              · (intro w hSw; (try dsimp only at hSw); go_simp; (try with_reducible rfl))
              try simp only [Act.put, List.setIfInBounds_toArray, List.set_cons_zero, List.set_cons_succ]
              refine wpAnyH_take (i := 13) (oi := { dst := some 63, op := Op.fieldAddr 49 (Operand.tmp 3) 0, type := _, pos := _, after := _, guard := some (7, true) }) (v := ?_) rfl (by kernel_rfl) (by kernel_rfl) (by kernel_rfl) (fun _ _ _ h => h) (Or.inl ⟨by rfl, ?_⟩) hH ?_
              rotate_left
              · (intro w hSw; (try dsimp only at hSw); go_simp; (try with_reducible rfl))
              try simp only [Act.put, List.setIfInBounds_toArray, List.set_cons_zero, List.set_cons_succ]
              refine wpAnyH_take (i := 14) (oi := { dst := some 64, op := Op.load 42 (Operand.tmp 63), type := _, pos := _, after := _, guard := some (7, true) }) (v := ?_) rfl (by kernel_rfl) (by kernel_rfl) (by kernel_rfl) (fun _ _ _ h => h) (Or.inl ⟨by rfl, ?_⟩) hH ?_
              rotate_left
              · (intro w hSw; (try dsimp only at hSw); go_simp; (try with_reducible rfl))
              try simp only [Act.put, List.setIfInBounds_toArray, List.set_cons_zero, List.set_cons_succ]
              refine wpAnyH_take (i := 15) (oi := { dst := some 65, op := Op.binOp BinOp.neq 42 (Operand.tmp 62) (Operand.tmp 64) 42, type := _, pos := _, after := _, guard := some (7, true) }) (v := ?_) rfl (by kernel_rfl) (by kernel_rfl) (by kernel_rfl) (fun _ _ _ h => h) (Or.inl ⟨by rfl, ?_⟩) hH ?_
              rotate_left
              · (intro w hSw; (try dsimp only at hSw); go_simp; (try with_reducible rfl))
              try simp only [Act.put, List.setIfInBounds_toArray, List.set_cons_zero, List.set_cons_succ]
              refine wpAnyH_take (i := 16) (oi := { dst := some 66, op := Op.pick (Operand.tmp 57) (Operand.tmp 65) (Operand.const (Value.bool false)), type := _, pos := _, after := _, guard := none }) (v := ?_) rfl (by kernel_rfl) (by kernel_rfl) (by kernel_rfl) (fun _ _ _ h => h) (Or.inl ⟨by rfl, ?_⟩) hH ?_
              rotate_left
              · (intro w hSw; (try dsimp only at hSw); go_simp; (try with_reducible rfl))
              try simp only [Act.put, List.setIfInBounds_toArray, List.set_cons_zero, List.set_cons_succ]
              refine wpAnyH_take (i := 17) (oi := { dst := some 67, op := Op.move (Operand.tmp 66), type := _, pos := _, after := _, guard := none }) (v := ?_) rfl (by kernel_rfl) (by kernel_rfl) (by kernel_rfl) (fun _ _ _ h => h) (Or.inl ⟨by rfl, ?_⟩) hH ?_
              rotate_left
              · (intro w hSw; (try dsimp only at hSw); go_simp; (try with_reducible rfl))
              try simp only [Act.put, List.setIfInBounds_toArray, List.set_cons_zero, List.set_cons_succ]
              refine wpAnyH_take (i := 18) (oi := { dst := some 68, op := Op.move (Operand.tmp 7), type := _, pos := _, after := _, guard := some (17, true) }) (v := undef) rfl (by kernel_rfl) (by kernel_rfl) (by kernel_rfl) (fun _ _ _ h => h) (Or.inr ⟨by rfl, rfl⟩) hH ?_
              try simp only [Act.put, List.setIfInBounds_toArray, List.set_cons_zero, List.set_cons_succ]
              refine wpAnyH_take (i := 19) (oi := { dst := some 69, op := Op.move (Operand.tmp 9), type := _, pos := _, after := _, guard := some (17, true) }) (v := undef) rfl (by kernel_rfl) (by kernel_rfl) (by kernel_rfl) (fun _ _ _ h => h) (Or.inr ⟨by rfl, rfl⟩) hH ?_
              try simp only [Act.put, List.setIfInBounds_toArray, List.set_cons_zero, List.set_cons_succ]
              refine wpAnyH_take (i := 20) (oi := { dst := some 70, op := Op.indexAddr 35 (Operand.tmp 68) (Operand.tmp 69), type := _, pos := _, after := _, guard := some (17, true) }) (v := undef) rfl (by kernel_rfl) (by kernel_rfl) (by kernel_rfl) (fun _ _ _ h => h) (Or.inr ⟨by rfl, rfl⟩) hH ?_
              try simp only [Act.put, List.setIfInBounds_toArray, List.set_cons_zero, List.set_cons_succ]
              refine wpAnyH_take (i := 21) (oi := { dst := some 71, op := Op.fieldAddr 44 (Operand.tmp 70) 1, type := _, pos := _, after := _, guard := some (17, true) }) (v := undef) rfl (by kernel_rfl) (by kernel_rfl) (by kernel_rfl) (fun _ _ _ h => h) (Or.inr ⟨by rfl, rfl⟩) hH ?_
              try simp only [Act.put, List.setIfInBounds_toArray, List.set_cons_zero, List.set_cons_succ]
              refine wpAnyH_take (i := 22) (oi := { dst := some 72, op := Op.load 42 (Operand.tmp 71), type := _, pos := _, after := _, guard := some (17, true) }) (v := undef) rfl (by kernel_rfl) (by kernel_rfl) (by kernel_rfl) (fun _ _ _ h => h) (Or.inr ⟨by rfl, rfl⟩) hH ?_
              try simp only [Act.put, List.setIfInBounds_toArray, List.set_cons_zero, List.set_cons_succ]
              refine wpAnyH_take (i := 23) (oi := { dst := some 73, op := Op.fieldAddr 49 (Operand.tmp 3) 0, type := _, pos := _, after := _, guard := some (17, true) }) (v := undef) rfl (by kernel_rfl) (by kernel_rfl) (by kernel_rfl) (fun _ _ _ h => h) (Or.inr ⟨by rfl, rfl⟩) hH ?_
              try simp only [Act.put, List.setIfInBounds_toArray, List.set_cons_zero, List.set_cons_succ]
              refine wpAnyH_take (i := 24) (oi := { dst := some 74, op := Op.load 42 (Operand.tmp 73), type := _, pos := _, after := _, guard := some (17, true) }) (v := undef) rfl (by kernel_rfl) (by kernel_rfl) (by kernel_rfl) (fun _ _ _ h => h) (Or.inr ⟨by rfl, rfl⟩) hH ?_
              try simp only [Act.put, List.setIfInBounds_toArray, List.set_cons_zero, List.set_cons_succ]
              refine wpAnyH_take (i := 25) (oi := { dst := some 75, op := Op.binOp BinOp.neq 42 (Operand.tmp 72) (Operand.tmp 74) 42, type := _, pos := _, after := _, guard := some (17, true) }) (v := undef) rfl (by kernel_rfl) (by kernel_rfl) (by kernel_rfl) (fun _ _ _ h => h) (Or.inr ⟨by rfl, rfl⟩) hH ?_
              try simp only [Act.put, List.setIfInBounds_toArray, List.set_cons_zero, List.set_cons_succ]
              refine wpAnyH_take (i := 26) (oi := { dst := some 76, op := Op.pick (Operand.tmp 67) (Operand.tmp 75) (Operand.const (Value.bool false)), type := _, pos := _, after := _, guard := none }) (v := ?_) rfl (by kernel_rfl) (by kernel_rfl) (by kernel_rfl) (fun _ _ _ h => h) (Or.inl ⟨by rfl, ?_⟩) hH ?_
              rotate_left
              · (intro w hSw; (try dsimp only at hSw); go_simp; (try with_reducible rfl))
              try simp only [Act.put, List.setIfInBounds_toArray, List.set_cons_zero, List.set_cons_succ]
              refine wpAnyH_done (by kernel_rfl) ?_ _
              refine NoPanic.normal ?_
              clear t0 t1 e0 gg
              obtain ⟨t0, t1, e0, gg⟩ := hH
              go_wp2_with fail
              go_roundw
              case rel => exact ⟨k + 1, by omega, by go_num, Lib.hid gg⟩
              case measure => simp [RowKit.intOf]; omega
            · have q1 : (ta != xk) = true := bne_iff_ne.2 hl
              have q2 : (tb != xk) = false := by
                rcases HB.out HZ.out with h | h
                · exact absurd h hl
                · dsimp only at h; simp [h]
              go_wp2_with fail
              refine wp_region_noPanic ?_
              refine wp_region_held_drew (S := (fun w' => w'.cell? ⟨gl, off + k * 2, none⟩ = some (.int .u32 ta) ∧ w'.cell? ⟨gl, off + k * 2 + 1, none⟩ = some (.int .u32 tb) ∧ w'.cell? ⟨w.heap.size, 0, none⟩ = some (.int .u32 xk) ∧ Kep w7.heap.size w7 w')) (by kernel_rfl) (⟨by rw [World.cell?_drew]; exact t0, by rw [World.cell?_drew]; exact t1, by rw [World.cell?_drew]; exact e0, kep_drew gg⟩) (fun hH => ?_)
              refine wpAnyH_take (i := 0) (oi := { dst := some 50, op := Op.move (Operand.tmp 6), type := _, pos := _, after := _, guard := none }) (v := ?_) rfl (by kernel_rfl) (by kernel_rfl) (by kernel_rfl) (fun _ _ _ h => h) (Or.inl ⟨by rfl, ?_⟩) hH ?_
              rotate_left
              · (intro w hSw; (try dsimp only at hSw); go_simp; (try with_reducible rfl))
              try simp only [Act.put, List.setIfInBounds_toArray, List.set_cons_zero, List.set_cons_succ]
              refine wpAnyH_take (i := 1) (oi := { dst := some 51, op := Op.move (Operand.tmp 7), type := _, pos := _, after := _, guard := none }) (v := ?_) rfl (by kernel_rfl) (by kernel_rfl) (by kernel_rfl) (fun _ _ _ h => h) (Or.inl ⟨by rfl, ?_⟩) hH ?_
              rotate_left
              · (intro w hSw; (try dsimp only at hSw); go_simp; (try with_reducible rfl))
              try simp only [Act.put, List.setIfInBounds_toArray, List.set_cons_zero, List.set_cons_succ]
              refine wpAnyH_take (i := 2) (oi := { dst := some 52, op := Op.move (Operand.tmp 9), type := _, pos := _, after := _, guard := none }) (v := ?_) rfl (by kernel_rfl) (by kernel_rfl) (by kernel_rfl) (fun _ _ _ h => h) (Or.inl ⟨by rfl, ?_⟩) hH ?_
              rotate_left
              · (intro w hSw; (try dsimp only at hSw); go_simp; (try with_reducible rfl))
              try simp only [Act.put, List.setIfInBounds_toArray, List.set_cons_zero, List.set_cons_succ]
              refine wpAnyH_take (i := 3) (oi := { dst := some 53, op := Op.indexAddr 35 (Operand.tmp 51) (Operand.tmp 52), type := _, pos := _, after := _, guard := none }) (v := ?_) rfl (by kernel_rfl) (by kernel_rfl) (by kernel_rfl) (fun _ _ _ h => h) (Or.inl ⟨by rfl, ?_⟩) hH ?_
              rotate_left
              · (intro w hSw; (try dsimp only at hSw); go_simp; (try with_reducible rfl))
              try simp only [Act.put, List.setIfInBounds_toArray, List.set_cons_zero, List.set_cons_succ]
              refine wpAnyH_take (i := 4) (oi := { dst := some 54, op := Op.load 44 (Operand.tmp 53), type := _, pos := _, after := _, guard := none }) (v := ?_) rfl (by kernel_rfl) (by kernel_rfl) (by kernel_rfl) (fun _ _ _ h => h) (Or.inl ⟨by rfl, ?_⟩) hH ?_
              rotate_left
              · (intro w hSw; (try dsimp only at hSw); go_simp; (try with_reducible rfl))
              try simp only [Act.put, List.setIfInBounds_toArray, List.set_cons_zero, List.set_cons_succ]
              refine wpAnyH_ready (rs := [5]) (by kernel_rfl) (by simp) ?_
              refine AllReadyH.cons (o := { dst := some 55, op := Op.call { callee := Callee.value (Operand.func 25), args := #[Operand.tmp 50, Operand.tmp 54], argTypes := #[35, 44] }, type := _, pos := _, after := _, guard := none }) rfl (fun K hK => ?_) AllReadyH.nil
              go_simp
              (with_reducible refine (HR.out _ _ (HQC.out.kep hH.2.2.2)).mono ?_); rintro e v16_5 ⟨rfl, g⟩
              refine hK.out _ _ (by (try dsimp only); (go_split_ands; exact ⟨Kep.all g (by assumption), Kep.all g (by assumption), Kep.all g (by assumption), kep_next (by assumption) g⟩)) (fun hH2 => ?_)
              clear hK K hH; have hH := hH2; clear hH2
              try simp only [Act.put, List.setIfInBounds_toArray, List.set_cons_zero, List.set_cons_succ]
              refine wpAnyH_take (i := 6) (oi := { dst := some 56, op := Op.unOp UnOp.not 4 (Operand.tmp 55), type := _, pos := _, after := _, guard := none }) (v := ?_) rfl (by kernel_rfl) (by kernel_rfl) (by kernel_rfl) (fun _ _ _ h => h) (Or.inl ⟨by rfl, ?_⟩) hH ?_
              rotate_left
              · (intro w hSw; (try dsimp only at hSw); go_simp; (try with_reducible rfl))
              try simp only [Act.put, List.setIfInBounds_toArray, List.set_cons_zero, List.set_cons_succ]
              refine wpAnyH_take (i := 7) (oi := { dst := some 57, op := Op.move (Operand.tmp 56), type := _, pos := _, after := _, guard := none }) (v := ?_) rfl (by kernel_rfl) (by kernel_rfl) (by kernel_rfl) (fun _ _ _ h => h) (Or.inl ⟨by rfl, ?_⟩) hH ?_
              rotate_left
              · (intro w hSw; (try dsimp only at hSw); go_simp; (try with_reducible rfl))
              try simp only [Act.put, List.setIfInBounds_toArray, List.set_cons_zero, List.set_cons_succ]
              refine wpAnyH_take (i := 8) (oi := { dst := some 58, op := Op.move (Operand.tmp 7), type := _, pos := _, after := _, guard := some (7, true) }) (v := ?_) rfl (by kernel_rfl) (by kernel_rfl) (by kernel_rfl) (fun _ _ _ h => h) (Or.inl ⟨by rfl, ?_⟩) hH ?_
              rotate_left
              · (intro w hSw; (try dsimp only at hSw); go_simp; (try with_reducible rfl))
              try simp only [Act.put, List.setIfInBounds_toArray, List.set_cons_zero, List.set_cons_succ]
              refine wpAnyH_take (i := 9) (oi := { dst := some 59, op := Op.move (Operand.tmp 9), type := _, pos := _, after := _, guard := some (7, true) }) (v := ?_) rfl (by kernel_rfl) (by kernel_rfl) (by kernel_rfl) (fun _ _ _ h => h) (Or.inl ⟨by rfl, ?_⟩) hH ?_
              rotate_left
              · (intro w hSw; (try dsimp only at hSw); go_simp; (try with_reducible rfl))
              try simp only [Act.put, List.setIfInBounds_toArray, List.set_cons_zero, List.set_cons_succ]
              refine wpAnyH_take (i := 10) (oi := { dst := some 60, op := Op.indexAddr 35 (Operand.tmp 58) (Operand.tmp 59), type := _, pos := _, after := _, guard := some (7, true) }) (v := ?_) rfl (by kernel_rfl) (by kernel_rfl) (by kernel_rfl) (fun _ _ _ h => h) (Or.inl ⟨by rfl, ?_⟩) hH ?_
              rotate_left
              · (intro w hSw; (try dsimp only at hSw); go_simp; (try with_reducible rfl))
              try simp only [Act.put, List.setIfInBounds_toArray, List.set_cons_zero, List.set_cons_succ]
              refine wpAnyH_take (i := 11) (oi := { dst := some 61, op := Op.fieldAddr 44 (Operand.tmp 60) 0, type := _, pos := _, after := _, guard := some (7, true) }) (v := ?_) rfl (by kernel_rfl) (by kernel_rfl) (by kernel_rfl) (fun _ _ _ h => h) (Or.inl ⟨by rfl, ?_⟩) hH ?_
              rotate_left
              · (intro w hSw; (try dsimp only at hSw); go_simp; (try with_reducible rfl))
              try simp only [Act.put, List.setIfInBounds_toArray, List.set_cons_zero, List.set_cons_succ]
              refine wpAnyH_take (i := 12) (oi := { dst := some 62, op := Op.load 42 (Operand.tmp 61), type := _, pos := _, after := _, guard := some (7, true) }) (v := ?_) rfl (by kernel_rfl) (by kernel_rfl) (by kernel_rfl) (fun _ _ _ h => h) (Or.inl ⟨by rfl, ?_⟩) hH ?_
              rotate_left
              · (intro w hSw; (try dsimp only at hSw); go_simp; (try with_reducible rfl))
              try simp only [Act.put, List.setIfInBounds_toArray, List.set_cons_zero, List.set_cons_succ]
              refine wpAnyH_take (i := 13) (oi := { dst := some 63, op := Op.fieldAddr 49 (Operand.tmp 3) 0, type := _, pos := _, after := _, guard := some (7, true) }) (v := ?_) rfl (by kernel_rfl) (by kernel_rfl) (by kernel_rfl) (fun _ _ _ h => h) (Or.inl ⟨by rfl, ?_⟩) hH ?_
              rotate_left
              · (intro w hSw; (try dsimp only at hSw); go_simp; (try with_reducible rfl))
              try simp only [Act.put, List.setIfInBounds_toArray, List.set_cons_zero, List.set_cons_succ]
              refine wpAnyH_take (i := 14) (oi := { dst := some 64, op := Op.load 42 (Operand.tmp 63), type := _, pos := _, after := _, guard := some (7, true) }) (v := ?_) rfl (by kernel_rfl) (by kernel_rfl) (by kernel_rfl) (fun _ _ _ h => h) (Or.inl ⟨by rfl, ?_⟩) hH ?_
              rotate_left
              · (intro w hSw; (try dsimp only at hSw); go_simp; (try with_reducible rfl))
              try simp only [Act.put, List.setIfInBounds_toArray, List.set_cons_zero, List.set_cons_succ]
              refine wpAnyH_take (i := 15) (oi := { dst := some 65, op := Op.binOp BinOp.neq 42 (Operand.tmp 62) (Operand.tmp 64) 42, type := _, pos := _, after := _, guard := some (7, true) }) (v := ?_) rfl (by kernel_rfl) (by kernel_rfl) (by kernel_rfl) (fun _ _ _ h => h) (Or.inl ⟨by rfl, ?_⟩) hH ?_
              rotate_left
              · (intro w hSw; (try dsimp only at hSw); go_simp; (try with_reducible rfl))
              try simp only [Act.put, List.setIfInBounds_toArray, List.set_cons_zero, List.set_cons_succ]
              refine wpAnyH_take (i := 16) (oi := { dst := some 66, op := Op.pick (Operand.tmp 57) (Operand.tmp 65) (Operand.const (Value.bool false)), type := _, pos := _, after := _, guard := none }) (v := ?_) rfl (by kernel_rfl) (by kernel_rfl) (by kernel_rfl) (fun _ _ _ h => h) (Or.inl ⟨by rfl, ?_⟩) hH ?_
              rotate_left
              · (intro w hSw; (try dsimp only at hSw); go_simp; (try with_reducible rfl))
              try simp only [Act.put, List.setIfInBounds_toArray, List.set_cons_zero, List.set_cons_succ]
              refine wpAnyH_take (i := 17) (oi := { dst := some 67, op := Op.move (Operand.tmp 66), type := _, pos := _, after := _, guard := none }) (v := ?_) rfl (by kernel_rfl) (by kernel_rfl) (by kernel_rfl) (fun _ _ _ h => h) (Or.inl ⟨by rfl, ?_⟩) hH ?_
              rotate_left
              · (intro w hSw; (try dsimp only at hSw); go_simp; (try with_reducible rfl))
              try simp only [Act.put, List.setIfInBounds_toArray, List.set_cons_zero, List.set_cons_succ]
              refine wpAnyH_take (i := 18) (oi := { dst := some 68, op := Op.move (Operand.tmp 7), type := _, pos := _, after := _, guard := some (17, true) }) (v := ?_) rfl (by kernel_rfl) (by kernel_rfl) (by kernel_rfl) (fun _ _ _ h => h) (Or.inl ⟨by rfl, ?_⟩) hH ?_
              rotate_left
              · (intro w hSw; (try dsimp only at hSw); go_simp; (try with_reducible rfl))
              try simp only [Act.put, List.setIfInBounds_toArray, List.set_cons_zero, List.set_cons_succ]
              refine wpAnyH_take (i := 19) (oi := { dst := some 69, op := Op.move (Operand.tmp 9), type := _, pos := _, after := _, guard := some (17, true) }) (v := ?_) rfl (by kernel_rfl) (by kernel_rfl) (by kernel_rfl) (fun _ _ _ h => h) (Or.inl ⟨by rfl, ?_⟩) hH ?_
              rotate_left
              · (intro w hSw; (try dsimp only at hSw); go_simp; (try with_reducible rfl))
              try simp only [Act.put, List.setIfInBounds_toArray, List.set_cons_zero, List.set_cons_succ]
              refine wpAnyH_take (i := 20) (oi := { dst := some 70, op := Op.indexAddr 35 (Operand.tmp 68) (Operand.tmp 69), type := _, pos := _, after := _, guard := some (17, true) }) (v := ?_) rfl (by kernel_rfl) (by kernel_rfl) (by kernel_rfl) (fun _ _ _ h => h) (Or.inl ⟨by rfl, ?_⟩) hH ?_
              rotate_left
              · (intro w hSw; (try dsimp only at hSw); go_simp; (try with_reducible rfl))
              try simp only [Act.put, List.setIfInBounds_toArray, List.set_cons_zero, List.set_cons_succ]
              refine wpAnyH_take (i := 21) (oi := { dst := some 71, op := Op.fieldAddr 44 (Operand.tmp 70) 1, type := _, pos := _, after := _, guard := some (17, true) }) (v := ?_) rfl (by kernel_rfl) (by kernel_rfl) (by kernel_rfl) (fun _ _ _ h => h) (Or.inl ⟨by rfl, ?_⟩) hH ?_
              rotate_left
              · (intro w hSw; (try dsimp only at hSw); go_simp; (try with_reducible rfl))
              try simp only [Act.put, List.setIfInBounds_toArray, List.set_cons_zero, List.set_cons_succ]
              refine wpAnyH_take (i := 22) (oi := { dst := some 72, op := Op.load 42 (Operand.tmp 71), type := _, pos := _, after := _, guard := some (17, true) }) (v := ?_) rfl (by kernel_rfl) (by kernel_rfl) (by kernel_rfl) (fun _ _ _ h => h) (Or.inl ⟨by rfl, ?_⟩) hH ?_
              rotate_left
              · (intro w hSw; (try dsimp only at hSw); go_simp; (try with_reducible rfl))
              try simp only [Act.put, List.setIfInBounds_toArray, List.set_cons_zero, List.set_cons_succ]
              refine wpAnyH_take (i := 23) (oi := { dst := some 73, op := Op.fieldAddr 49 (Operand.tmp 3) 0, type := _, pos := _, after := _, guard := some (17, true) }) (v := ?_) rfl (by kernel_rfl) (by kernel_rfl) (by kernel_rfl) (fun _ _ _ h => h) (Or.inl ⟨by rfl, ?_⟩) hH ?_
              rotate_left
              · (intro w hSw; (try dsimp only at hSw); go_simp; (try with_reducible rfl))
              try simp only [Act.put, List.setIfInBounds_toArray, List.set_cons_zero, List.set_cons_succ]
              refine wpAnyH_take (i := 24) (oi := { dst := some 74, op := Op.load 42 (Operand.tmp 73), type := _, pos := _, after := _, guard := some (17, true) }) (v := ?_) rfl (by kernel_rfl) (by kernel_rfl) (by kernel_rfl) (fun _ _ _ h => h) (Or.inl ⟨by rfl, ?_⟩) hH ?_
              rotate_left
              · (intro w hSw; (try dsimp only at hSw); go_simp; (try with_reducible rfl))
              try simp only [Act.put, List.setIfInBounds_toArray, List.set_cons_zero, List.set_cons_succ]
              refine wpAnyH_take (i := 25) (oi := { dst := some 75, op := Op.binOp BinOp.neq 42 (Operand.tmp 72) (Operand.tmp 74) 42, type := _, pos := _, after := _, guard := some (17, true) }) (v := ?_) rfl (by kernel_rfl) (by kernel_rfl) (by kernel_rfl) (fun _ _ _ h => h) (Or.inl ⟨by rfl, ?_⟩) hH ?_
              rotate_left
              · (intro w hSw; (try dsimp only at hSw); go_simp; (try with_reducible rfl))
              try simp only [Act.put, List.setIfInBounds_toArray, List.set_cons_zero, List.set_cons_succ]
              refine wpAnyH_take (i := 26) (oi := { dst := some 76, op := Op.pick (Operand.tmp 67) (Operand.tmp 75) (Operand.const (Value.bool false)), type := _, pos := _, after := _, guard := none }) (v := ?_) rfl (by kernel_rfl) (by kernel_rfl) (by kernel_rfl) (fun _ _ _ h => h) (Or.inl ⟨by rfl, ?_⟩) hH ?_
              rotate_left
              · (intro w hSw; (try dsimp only at hSw); go_simp; (try with_reducible rfl))
              try simp only [Act.put, List.setIfInBounds_toArray, List.set_cons_zero, List.set_cons_succ]
              refine wpAnyH_done (by kernel_rfl) ?_ _
              refine NoPanic.normal ?_
              clear t0 t1 e0 gg
              obtain ⟨t0, t1, e0, gg⟩ := hH
              go_wp2_with fail
              go_roundw
              case rel => exact ⟨k + 1, by omega, by go_num, Lib.hid gg⟩
              case measure => simp [RowKit.intOf]; omega
          · go_wp2_with fail
            refine wp_region_noPanic ?_
            refine wp_region_held_drew (S := (fun w' => w'.cell? ⟨gl, off + k * 2, none⟩ = some (.int .u32 ta) ∧ w'.cell? ⟨gl, off + k * 2 + 1, none⟩ = some (.int .u32 tb) ∧ w'.cell? ⟨w.heap.size, 0, none⟩ = some (.int .u32 xk) ∧ Kep w7.heap.size w7 w')) (by kernel_rfl) (⟨by rw [World.cell?_drew]; exact t0, by rw [World.cell?_drew]; exact t1, by rw [World.cell?_drew]; exact e0, kep_drew gg⟩) (fun hH => ?_)
            refine wpAnyH_take (i := 0) (oi := { dst := some 50, op := Op.move (Operand.tmp 6), type := _, pos := _, after := _, guard := none }) (v := ?_) rfl (by kernel_rfl) (by kernel_rfl) (by kernel_rfl) (fun _ _ _ h => h) (Or.inl ⟨by rfl, ?_⟩) hH ?_
            rotate_left
            · (intro w hSw; (try dsimp only at hSw); go_simp; (try with_reducible rfl))
            try simp only [Act.put, List.setIfInBounds_toArray, List.set_cons_zero, List.set_cons_succ]
            refine wpAnyH_take (i := 1) (oi := { dst := some 51, op := Op.move (Operand.tmp 7), type := _, pos := _, after := _, guard := none }) (v := ?_) rfl (by kernel_rfl) (by kernel_rfl) (by kernel_rfl) (fun _ _ _ h => h) (Or.inl ⟨by rfl, ?_⟩) hH ?_
            rotate_left
            · (intro w hSw; (try dsimp only at hSw); go_simp; (try with_reducible rfl))
            try simp only [Act.put, List.setIfInBounds_toArray, List.set_cons_zero, List.set_cons_succ]
            refine wpAnyH_take (i := 2) (oi := { dst := some 52, op := Op.move (Operand.tmp 9), type := _, pos := _, after := _, guard := none }) (v := ?_) rfl (by kernel_rfl) (by kernel_rfl) (by kernel_rfl) (fun _ _ _ h => h) (Or.inl ⟨by rfl, ?_⟩) hH ?_
            rotate_left
            · (intro w hSw; (try dsimp only at hSw); go_simp; (try with_reducible rfl))
            try simp only [Act.put, List.setIfInBounds_toArray, List.set_cons_zero, List.set_cons_succ]
            refine wpAnyH_take (i := 3) (oi := { dst := some 53, op := Op.indexAddr 35 (Operand.tmp 51) (Operand.tmp 52), type := _, pos := _, after := _, guard := none }) (v := ?_) rfl (by kernel_rfl) (by kernel_rfl) (by kernel_rfl) (fun _ _ _ h => h) (Or.inl ⟨by rfl, ?_⟩) hH ?_
            rotate_left
            · (intro w hSw; (try dsimp only at hSw); go_simp; (try with_reducible rfl))
            try simp only [Act.put, List.setIfInBounds_toArray, List.set_cons_zero, List.set_cons_succ]
            refine wpAnyH_take (i := 4) (oi := { dst := some 54, op := Op.load 44 (Operand.tmp 53), type := _, pos := _, after := _, guard := none }) (v := ?_) rfl (by kernel_rfl) (by kernel_rfl) (by kernel_rfl) (fun _ _ _ h => h) (Or.inl ⟨by rfl, ?_⟩) hH ?_
            rotate_left
            · (intro w hSw; (try dsimp only at hSw); go_simp; (try with_reducible rfl))
            try simp only [Act.put, List.setIfInBounds_toArray, List.set_cons_zero, List.set_cons_succ]
            refine wpAnyH_ready (rs := [5]) (by kernel_rfl) (by simp) ?_
            refine AllReadyH.cons (o := { dst := some 55, op := Op.call { callee := Callee.value (Operand.func 25), args := #[Operand.tmp 50, Operand.tmp 54], argTypes := #[35, 44] }, type := _, pos := _, after := _, guard := none }) rfl (fun K hK => ?_) AllReadyH.nil
            go_simp
            (with_reducible refine (HR.out _ _ (HQC.out.kep hH.2.2.2)).mono ?_); rintro e v16_5 ⟨rfl, g⟩
            refine hK.out _ _ (by (try dsimp only); (go_split_ands; exact ⟨Kep.all g (by assumption), Kep.all g (by assumption), Kep.all g (by assumption), kep_next (by assumption) g⟩)) (fun hH2 => ?_)
            clear hK K hH; have hH := hH2; clear hH2
            try simp only [Act.put, List.setIfInBounds_toArray, List.set_cons_zero, List.set_cons_succ]
            refine wpAnyH_take (i := 6) (oi := { dst := some 56, op := Op.unOp UnOp.not 4 (Operand.tmp 55), type := _, pos := _, after := _, guard := none }) (v := ?_) rfl (by kernel_rfl) (by kernel_rfl) (by kernel_rfl) (fun _ _ _ h => h) (Or.inl ⟨by rfl, ?_⟩) hH ?_
            rotate_left
            · (intro w hSw; (try dsimp only at hSw); go_simp; (try with_reducible rfl))
            try simp only [Act.put, List.setIfInBounds_toArray, List.set_cons_zero, List.set_cons_succ]
            refine wpAnyH_take (i := 7) (oi := { dst := some 57, op := Op.move (Operand.tmp 56), type := _, pos := _, after := _, guard := none }) (v := ?_) rfl (by kernel_rfl) (by kernel_rfl) (by kernel_rfl) (fun _ _ _ h => h) (Or.inl ⟨by rfl, ?_⟩) hH ?_
            rotate_left
            · (intro w hSw; (try dsimp only at hSw); go_simp; (try with_reducible rfl))
            try simp only [Act.put, List.setIfInBounds_toArray, List.set_cons_zero, List.set_cons_succ]
            refine wpAnyH_take (i := 8) (oi := { dst := some 58, op := Op.move (Operand.tmp 7), type := _, pos := _, after := _, guard := some (7, true) }) (v := undef) rfl (by kernel_rfl) (by kernel_rfl) (by kernel_rfl) (fun _ _ _ h => h) (Or.inr ⟨by rfl, rfl⟩) hH ?_
            try simp only [Act.put, List.setIfInBounds_toArray, List.set_cons_zero, List.set_cons_succ]
            refine wpAnyH_take (i := 9) (oi := { dst := some 59, op := Op.move (Operand.tmp 9), type := _, pos := _, after := _, guard := some (7, true) }) (v := undef) rfl (by kernel_rfl) (by kernel_rfl) (by kernel_rfl) (fun _ _ _ h => h) (Or.inr ⟨by rfl, rfl⟩) hH ?_
            try simp only [Act.put, List.setIfInBounds_toArray, List.set_cons_zero, List.set_cons_succ]
            refine wpAnyH_take (i := 10) (oi := { dst := some 60, op := Op.indexAddr 35 (Operand.tmp 58) (Operand.tmp 59), type := _, pos := _, after := _, guard := some (7, true) }) (v := undef) rfl (by kernel_rfl) (by kernel_rfl) (by kernel_rfl) (fun _ _ _ h => h) (Or.inr ⟨by rfl, rfl⟩) hH ?_
            try simp only [Act.put, List.setIfInBounds_toArray, List.set_cons_zero, List.set_cons_succ]
            refine wpAnyH_take (i := 11) (oi := { dst := some 61, op := Op.fieldAddr 44 (Operand.tmp 60) 0, type := _, pos := _, after := _, guard := some (7, true) }) (v := undef) rfl (by kernel_rfl) (by kernel_rfl) (by kernel_rfl) (fun _ _ _ h => h) (Or.inr ⟨by rfl, rfl⟩) hH ?_
            try simp only [Act.put, List.setIfInBounds_toArray, List.set_cons_zero, List.set_cons_succ]
            refine wpAnyH_take (i := 12) (oi := { dst := some 62, op := Op.load 42 (Operand.tmp 61), type := _, pos := _, after := _, guard := some (7, true) }) (v := undef) rfl (by kernel_rfl) (by kernel_rfl) (by kernel_rfl) (fun _ _ _ h => h) (Or.inr ⟨by rfl, rfl⟩) hH ?_
            try simp only [Act.put, List.setIfInBounds_toArray, List.set_cons_zero, List.set_cons_succ]
            refine wpAnyH_take (i := 13) (oi := { dst := some 63, op := Op.fieldAddr 49 (Operand.tmp 3) 0, type := _, pos := _, after := _, guard := some (7, true) }) (v := undef) rfl (by kernel_rfl) (by kernel_rfl) (by kernel_rfl) (fun _ _ _ h => h) (Or.inr ⟨by rfl, rfl⟩) hH ?_
            try simp only [Act.put, List.setIfInBounds_toArray, List.set_cons_zero, List.set_cons_succ]
            refine wpAnyH_take (i := 14) (oi := { dst := some 64, op := Op.load 42 (Operand.tmp 63), type := _, pos := _, after := _, guard := some (7, true) }) (v := undef) rfl (by kernel_rfl) (by kernel_rfl) (by kernel_rfl) (fun _ _ _ h => h) (Or.inr ⟨by rfl, rfl⟩) hH ?_
            try simp only [Act.put, List.setIfInBounds_toArray, List.set_cons_zero, List.set_cons_succ]
            refine wpAnyH_take (i := 15) (oi := { dst := some 65, op := Op.binOp BinOp.neq 42 (Operand.tmp 62) (Operand.tmp 64) 42, type := _, pos := _, after := _, guard := some (7, true) }) (v := undef) rfl (by kernel_rfl) (by kernel_rfl) (by kernel_rfl) (fun _ _ _ h => h) (Or.inr ⟨by rfl, rfl⟩) hH ?_
            try simp only [Act.put, List.setIfInBounds_toArray, List.set_cons_zero, List.set_cons_succ]
            refine wpAnyH_take (i := 16) (oi := { dst := some 66, op := Op.pick (Operand.tmp 57) (Operand.tmp 65) (Operand.const (Value.bool false)), type := _, pos := _, after := _, guard := none }) (v := ?_) rfl (by kernel_rfl) (by kernel_rfl) (by kernel_rfl) (fun _ _ _ h => h) (Or.inl ⟨by rfl, ?_⟩) hH ?_
            rotate_left
            · (intro w hSw; (try dsimp only at hSw); go_simp; (try with_reducible rfl))
            try simp only [Act.put, List.setIfInBounds_toArray, List.set_cons_zero, List.set_cons_succ]
            refine wpAnyH_take (i := 17) (oi := { dst := some 67, op := Op.move (Operand.tmp 66), type := _, pos := _, after := _, guard := none }) (v := ?_) rfl (by kernel_rfl) (by kernel_rfl) (by kernel_rfl) (fun _ _ _ h => h) (Or.inl ⟨by rfl, ?_⟩) hH ?_
            rotate_left
            · (intro w hSw; (try dsimp only at hSw); go_simp; (try with_reducible rfl))
            try simp only [Act.put, List.setIfInBounds_toArray, List.set_cons_zero, List.set_cons_succ]
            refine wpAnyH_take (i := 18) (oi := { dst := some 68, op := Op.move (Operand.tmp 7), type := _, pos := _, after := _, guard := some (17, true) }) (v := undef) rfl (by kernel_rfl) (by kernel_rfl) (by kernel_rfl) (fun _ _ _ h => h) (Or.inr ⟨by rfl, rfl⟩) hH ?_
            try simp only [Act.put, List.setIfInBounds_toArray, List.set_cons_zero, List.set_cons_succ]
            refine wpAnyH_take (i := 19) (oi := { dst := some 69, op := Op.move (Operand.tmp 9), type := _, pos := _, after := _, guard := some (17, true) }) (v := undef) rfl (by kernel_rfl) (by kernel_rfl) (by kernel_rfl) (fun _ _ _ h => h) (Or.inr ⟨by rfl, rfl⟩) hH ?_
            try simp only [Act.put, List.setIfInBounds_toArray, List.set_cons_zero, List.set_cons_succ]
            refine wpAnyH_take (i := 20) (oi := { dst := some 70, op := Op.indexAddr 35 (Operand.tmp 68) (Operand.tmp 69), type := _, pos := _, after := _, guard := some (17, true) }) (v := undef) rfl (by kernel_rfl) (by kernel_rfl) (by kernel_rfl) (fun _ _ _ h => h) (Or.inr ⟨by rfl, rfl⟩) hH ?_
            try simp only [Act.put, List.setIfInBounds_toArray, List.set_cons_zero, List.set_cons_succ]
            refine wpAnyH_take (i := 21) (oi := { dst := some 71, op := Op.fieldAddr 44 (Operand.tmp 70) 1, type := _, pos := _, after := _, guard := some (17, true) }) (v := undef) rfl (by kernel_rfl) (by kernel_rfl) (by kernel_rfl) (fun _ _ _ h => h) (Or.inr ⟨by rfl, rfl⟩) hH ?_
            try simp only [Act.put, List.setIfInBounds_toArray, List.set_cons_zero, List.set_cons_succ]
            refine wpAnyH_take (i := 22) (oi := { dst := some 72, op := Op.load 42 (Operand.tmp 71), type := _, pos := _, after := _, guard := some (17, true) }) (v := undef) rfl (by kernel_rfl) (by kernel_rfl) (by kernel_rfl) (fun _ _ _ h => h) (Or.inr ⟨by rfl, rfl⟩) hH ?_
            try simp only [Act.put, List.setIfInBounds_toArray, List.set_cons_zero, List.set_cons_succ]
            refine wpAnyH_take (i := 23) (oi := { dst := some 73, op := Op.fieldAddr 49 (Operand.tmp 3) 0, type := _, pos := _, after := _, guard := some (17, true) }) (v := undef) rfl (by kernel_rfl) (by kernel_rfl) (by kernel_rfl) (fun _ _ _ h => h) (Or.inr ⟨by rfl, rfl⟩) hH ?_
            try simp only [Act.put, List.setIfInBounds_toArray, List.set_cons_zero, List.set_cons_succ]
            refine wpAnyH_take (i := 24) (oi := { dst := some 74, op := Op.load 42 (Operand.tmp 73), type := _, pos := _, after := _, guard := some (17, true) }) (v := undef) rfl (by kernel_rfl) (by kernel_rfl) (by kernel_rfl) (fun _ _ _ h => h) (Or.inr ⟨by rfl, rfl⟩) hH ?_
            try simp only [Act.put, List.setIfInBounds_toArray, List.set_cons_zero, List.set_cons_succ]
            refine wpAnyH_take (i := 25) (oi := { dst := some 75, op := Op.binOp BinOp.neq 42 (Operand.tmp 72) (Operand.tmp 74) 42, type := _, pos := _, after := _, guard := some (17, true) }) (v := undef) rfl (by kernel_rfl) (by kernel_rfl) (by kernel_rfl) (fun _ _ _ h => h) (Or.inr ⟨by rfl, rfl⟩) hH ?_
            try simp only [Act.put, List.setIfInBounds_toArray, List.set_cons_zero, List.set_cons_succ]
            refine wpAnyH_take (i := 26) (oi := { dst := some 76, op := Op.pick (Operand.tmp 67) (Operand.tmp 75) (Operand.const (Value.bool false)), type := _, pos := _, after := _, guard := none }) (v := ?_) rfl (by kernel_rfl) (by kernel_rfl) (by kernel_rfl) (fun _ _ _ h => h) (Or.inl ⟨by rfl, ?_⟩) hH ?_
            rotate_left
            · (intro w hSw; (try dsimp only at hSw); go_simp; (try with_reducible rfl))
            try simp only [Act.put, List.setIfInBounds_toArray, List.set_cons_zero, List.set_cons_succ]
            refine wpAnyH_done (by kernel_rfl) ?_ _
            refine NoPanic.normal ?_
            clear t0 t1 e0 gg
            obtain ⟨t0, t1, e0, gg⟩ := hH
            go_wp2_with fail
            go_roundw
            case rel => exact ⟨k + 1, by omega, by go_num, Lib.hid gg⟩
            case measure => simp [RowKit.intOf]; omega
        · go_wp2_with fail
          go_ret
          exact ⟨rfl, kep_next G0.out HK.out⟩
/-- The law GridMore. -/
theorem gol_law {GI : World → Nat → (Nat → Prop) → List Ent → Prop} (O : GOps GI) (AW : GAwake) (xk xa xb xc xd : Int) (hxf : FitE (⟨xk, xa, xb, xc, xd⟩ : Ent)) (hxu : (Lit.int .u32 xk).wf = true) (L : List Ent) (hl9 : L.length ≤ 9223372036854775807) (HF : Hid (∀ x ∈ L, FitE x)) (v : Value) (w : World) (F0 : Fac w) (hq : Sq ev 5 w v L) (HU : Hid (∀ x ∈ L, (Lit.int .u32 x.k).wf = true)) : Calls Tryd.prog 7 #[v, .agg #[.int .u32 xk, .int .i32 xa, .int .i32 xb, .int .i32 xc, .int .i32 xd]] w fun e w' => e = .returned (.bool true) ∧ Kep w.heap.size w w' := by
  cases hfew : fewB L
  · exact gol_bad (Lib.hid AW) xk xa xb xc xd hxf hxu L hl9 HF v w F0 hq hfew
  · cases hfx : fewB [(⟨xk, xa, xb, xc, xd⟩ : Ent)]
    · exact gol_bad2 (Lib.hid AW) xk xa xb xc xd hxf hxu L hl9 HF v w F0 hq hfew hfx
    · exact gol_ok O (Lib.hid AW) xk xa xb xc xd hxf hxu L hl9 HF v w F0 hq HU hfew hfx
end Go.Proofs.YtnmnbogjnjbopaaDoor
