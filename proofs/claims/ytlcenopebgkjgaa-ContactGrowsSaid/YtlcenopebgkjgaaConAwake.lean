/-
  Package contact: the documentation's examples.
-/
import Derived.Test.YtlcenopebgkjgaaConCon
import Derived.Deep.DeepCutAuto
import Derived.Deep.QuietTactic
import Derived.BigQuiet
namespace Go.Proofs.Ytlcenopebgkjgaa
open Go.RowKit Go.Lib

theorem tw_is {x : Tw} {a b c d t : Int} (h : x.a = a ∧ x.b = b ∧ x.c = c ∧ x.d = d ∧ x.t = t) : x = ⟨a, b, c, d, t⟩ := by
  obtain ⟨rfl, rfl, rfl, rfl, rfl⟩ := h
  rfl
theorem con_at {x y : Bd} {z : Tw} {n : Int} (hz : cc x y = z) (hn : IsRoot n z.t) : conV x y = (if decide (z.t < csm x y * csm x y) = true then ⟨x.k, y.k, ux (z.c - z.a) n, uy (z.d - z.b) n, csm x y - n⟩ else ⟨0, 0, 0, 0, 0⟩) ∧ tchB x y = decide (z.t < csm x y * csm x y) ∧ gapC x y = n - csm x y := by
  have e : cln x y = n := by unfold cln; rw [hz]; exact rt_eq hn
  refine ⟨?_, ?_, ?_⟩
  · unfold conV tchB conC cdx cdy
    rw [e, hz]
  · unfold tchB
    rw [hz]
  · unfold gapC
    rw [e]
def exA : Bd := ⟨1, 65536, 0, 0, 0, 0, 0, 0, 0, 0⟩
def exB1 : Bd := ⟨2, 65536, 0, 0, 0, 0, 0, 100000, 0, 0⟩
def exB2 : Bd := ⟨2, 65536, 0, 0, 0, 0, 0, 131072, 0, 0⟩
theorem ex_1 : conV (lowB exB1 exA) (higB exB1 exA) = ⟨1, 2, 0, 65536, 31072⟩ ∧ tchB (lowB exB1 exA) (higB exB1 exA) = true := by
  have h := con_at (x := exA) (y := exB1) (n := 100000) (tw_is (a := 0) (b := 0) (c := 0) (d := 100000) (t := 10000000000) (by decide +kernel)) ⟨by decide, by decide, by decide⟩
  have e1 : lowB exB1 exA = exA := rfl
  have e2 : higB exB1 exA = exB1 := rfl
  rw [e1, e2, h.1, h.2.1]
  exact ⟨rfl, by decide⟩
theorem ex_2 : tchB (lowB exA exB2) (higB exA exB2) = false ∧ gapC (lowB exA exB2) (higB exA exB2) = 0 := by
  have h := con_at (x := exA) (y := exB2) (n := 131072) (tw_is (a := 0) (b := 0) (c := 0) (d := 131072) (t := 17179869184) (by decide +kernel)) ⟨by decide, by decide, by decide⟩
  have e1 : lowB exA exB2 = exA := rfl
  have e2 : higB exA exB2 = exB2 := rfl
  rw [e1, e2, h.2.1, h.2.2]
  exact ⟨by decide, by decide⟩
set_option maxRecDepth 100000 in
set_option maxHeartbeats 4000000 in
theorem con_awake (O : QOps) : QAwake := fun w => by
  have k1 : okC exA := by decide
  have k2 : okC exB1 := by decide
  have k3 : okC exB2 := by decide
  have C1 := O.of_ k2 k1 (by decide)
  rw [ex_1.1, ex_1.2] at C1
  have C2 := O.touch k1 k3 (by decide)
  rw [ex_2.1] at C2
  have C3 := O.gap k1 k3 (by decide)
  rw [ex_2.2] at C3
  replace C1 : Hid (∀ w, Calls Try.prog 10 #[.agg #[.int .u32 2, .int .i32 65536, .int .i32 0, .int .i32 0, .int .i32 0, .int .i32 0, .int .i32 0, .int .i32 100000, .int .i32 0, .int .i32 0], .agg #[.int .u32 1, .int .i32 65536, .int .i32 0, .int .i32 0, .int .i32 0, .int .i32 0, .int .i32 0, .int .i32 0, .int .i32 0, .int .i32 0]] w fun e w' => e = .returned (.tuple #[.agg #[.int .u32 1, .int .u32 2, .int .i32 0, .int .i32 65536, .int .i32 31072], .bool true]) ∧ Kep w.heap.size w w') := Lib.hid C1
  replace C2 : Hid (∀ w, Calls Try.prog 12 #[.agg #[.int .u32 1, .int .i32 65536, .int .i32 0, .int .i32 0, .int .i32 0, .int .i32 0, .int .i32 0, .int .i32 0, .int .i32 0, .int .i32 0], .agg #[.int .u32 2, .int .i32 65536, .int .i32 0, .int .i32 0, .int .i32 0, .int .i32 0, .int .i32 0, .int .i32 131072, .int .i32 0, .int .i32 0]] w fun e w' => e = .returned (.bool false) ∧ Kep w.heap.size w w') := Lib.hid C2
  replace C3 : Hid (∀ w, Calls Try.prog 13 #[.agg #[.int .u32 1, .int .i32 65536, .int .i32 0, .int .i32 0, .int .i32 0, .int .i32 0, .int .i32 0, .int .i32 0, .int .i32 0, .int .i32 0], .agg #[.int .u32 2, .int .i32 65536, .int .i32 0, .int .i32 0, .int .i32 0, .int .i32 0, .int .i32 0, .int .i32 131072, .int .i32 0, .int .i32 0]] w fun e w' => e = .returned (.int .i64 0) ∧ Kep w.heap.size w w') := Lib.hid C3
  have vv := fun w => ct_same 1 2 0 65536 31072 w
  clear k1 k2 k3
  go_enter Try.func8, Try.ntmps8
  go_upto_region 5 with (first
    | ((with_reducible refine (C1.out _).mono ?_); rintro e w1 ⟨rfl, g1⟩
       have a0 := Kep.all g1 (a := ⟨w.heap.size, 0, none⟩) (v := .int .u32 1) (by (repeat (first | rw [World.cell?_drew] | rw [World.cell?_alloc_past _ _ _ (by first | (simp; done) | (simp; omega))])); rw [World.cell?_alloc_at _ _ _ _ (by simp)]; rfl)
       have a1 := Kep.all g1 (a := ⟨w.heap.size, 1, none⟩) (v := .int .i32 65536) (by (repeat (first | rw [World.cell?_drew] | rw [World.cell?_alloc_past _ _ _ (by first | (simp; done) | (simp; omega))])); rw [World.cell?_alloc_at _ _ _ _ (by simp)]; rfl)
       have a2 := Kep.all g1 (a := ⟨w.heap.size, 2, none⟩) (v := .int .i32 0) (by (repeat (first | rw [World.cell?_drew] | rw [World.cell?_alloc_past _ _ _ (by first | (simp; done) | (simp; omega))])); rw [World.cell?_alloc_at _ _ _ _ (by simp)]; rfl)
       have a3 := Kep.all g1 (a := ⟨w.heap.size, 3, none⟩) (v := .int .i32 0) (by (repeat (first | rw [World.cell?_drew] | rw [World.cell?_alloc_past _ _ _ (by first | (simp; done) | (simp; omega))])); rw [World.cell?_alloc_at _ _ _ _ (by simp)]; rfl)
       have a4 := Kep.all g1 (a := ⟨w.heap.size, 4, none⟩) (v := .int .i32 0) (by (repeat (first | rw [World.cell?_drew] | rw [World.cell?_alloc_past _ _ _ (by first | (simp; done) | (simp; omega))])); rw [World.cell?_alloc_at _ _ _ _ (by simp)]; rfl)
       have a5 := Kep.all g1 (a := ⟨w.heap.size, 5, none⟩) (v := .int .i32 0) (by (repeat (first | rw [World.cell?_drew] | rw [World.cell?_alloc_past _ _ _ (by first | (simp; done) | (simp; omega))])); rw [World.cell?_alloc_at _ _ _ _ (by simp)]; rfl)
       have a6 := Kep.all g1 (a := ⟨w.heap.size, 6, none⟩) (v := .int .i32 0) (by (repeat (first | rw [World.cell?_drew] | rw [World.cell?_alloc_past _ _ _ (by first | (simp; done) | (simp; omega))])); rw [World.cell?_alloc_at _ _ _ _ (by simp)]; rfl)
       have a7 := Kep.all g1 (a := ⟨w.heap.size, 7, none⟩) (v := .int .i32 0) (by (repeat (first | rw [World.cell?_drew] | rw [World.cell?_alloc_past _ _ _ (by first | (simp; done) | (simp; omega))])); rw [World.cell?_alloc_at _ _ _ _ (by simp)]; rfl)
       have a8 := Kep.all g1 (a := ⟨w.heap.size, 8, none⟩) (v := .int .i32 0) (by (repeat (first | rw [World.cell?_drew] | rw [World.cell?_alloc_past _ _ _ (by first | (simp; done) | (simp; omega))])); rw [World.cell?_alloc_at _ _ _ _ (by simp)]; rfl)
       have a9 := Kep.all g1 (a := ⟨w.heap.size, 9, none⟩) (v := .int .i32 0) (by (repeat (first | rw [World.cell?_drew] | rw [World.cell?_alloc_past _ _ _ (by first | (simp; done) | (simp; omega))])); rw [World.cell?_alloc_at _ _ _ _ (by simp)]; rfl)
       have b0 := Kep.all g1 (a := ⟨w.heap.size + 1, 0, none⟩) (v := .int .u32 2) (by (repeat (first | rw [World.cell?_drew] | rw [World.cell?_alloc_past _ _ _ (by first | (simp; done) | (simp; omega))])); rw [World.cell?_alloc_at _ _ _ _ (by simp)]; rfl)
       have b1 := Kep.all g1 (a := ⟨w.heap.size + 1, 1, none⟩) (v := .int .i32 65536) (by (repeat (first | rw [World.cell?_drew] | rw [World.cell?_alloc_past _ _ _ (by first | (simp; done) | (simp; omega))])); rw [World.cell?_alloc_at _ _ _ _ (by simp)]; rfl)
       have b2 := Kep.all g1 (a := ⟨w.heap.size + 1, 2, none⟩) (v := .int .i32 0) (by (repeat (first | rw [World.cell?_drew] | rw [World.cell?_alloc_past _ _ _ (by first | (simp; done) | (simp; omega))])); rw [World.cell?_alloc_at _ _ _ _ (by simp)]; rfl)
       have b3 := Kep.all g1 (a := ⟨w.heap.size + 1, 3, none⟩) (v := .int .i32 0) (by (repeat (first | rw [World.cell?_drew] | rw [World.cell?_alloc_past _ _ _ (by first | (simp; done) | (simp; omega))])); rw [World.cell?_alloc_at _ _ _ _ (by simp)]; rfl)
       have b4 := Kep.all g1 (a := ⟨w.heap.size + 1, 4, none⟩) (v := .int .i32 0) (by (repeat (first | rw [World.cell?_drew] | rw [World.cell?_alloc_past _ _ _ (by first | (simp; done) | (simp; omega))])); rw [World.cell?_alloc_at _ _ _ _ (by simp)]; rfl)
       have b5 := Kep.all g1 (a := ⟨w.heap.size + 1, 5, none⟩) (v := .int .i32 0) (by (repeat (first | rw [World.cell?_drew] | rw [World.cell?_alloc_past _ _ _ (by first | (simp; done) | (simp; omega))])); rw [World.cell?_alloc_at _ _ _ _ (by simp)]; rfl)
       have b6 := Kep.all g1 (a := ⟨w.heap.size + 1, 6, none⟩) (v := .int .i32 0) (by (repeat (first | rw [World.cell?_drew] | rw [World.cell?_alloc_past _ _ _ (by first | (simp; done) | (simp; omega))])); rw [World.cell?_alloc_at _ _ _ _ (by simp)]; rfl)
       have b7 := Kep.all g1 (a := ⟨w.heap.size + 1, 7, none⟩) (v := .int .i32 100000) (by (repeat (first | rw [World.cell?_drew] | rw [World.cell?_alloc_past _ _ _ (by first | (simp; done) | (simp; omega))])); rw [World.cell?_alloc_at _ _ _ _ (by simp)]; rfl)
       have b8 := Kep.all g1 (a := ⟨w.heap.size + 1, 8, none⟩) (v := .int .i32 0) (by (repeat (first | rw [World.cell?_drew] | rw [World.cell?_alloc_past _ _ _ (by first | (simp; done) | (simp; omega))])); rw [World.cell?_alloc_at _ _ _ _ (by simp)]; rfl)
       have b9 := Kep.all g1 (a := ⟨w.heap.size + 1, 9, none⟩) (v := .int .i32 0) (by (repeat (first | rw [World.cell?_drew] | rw [World.cell?_alloc_past _ _ _ (by first | (simp; done) | (simp; omega))])); rw [World.cell?_alloc_at _ _ _ _ (by simp)]; rfl)
       have gg := kep_next (kep_more (kep_more (Kep.refl _ _) _) _) g1
       have f7 := kep_froz g1 (a := ⟨w.heap.size + 1, 7, none⟩) (by (repeat (first | rw [World.cell?_drew] | rw [World.cell?_alloc_past _ _ _ (by first | (simp; done) | (simp; omega))])); rw [World.cell?_alloc_at _ _ _ _ (by simp)]; rfl) (by (repeat (first | rw [World.frozen?_drew] | rw [World.frozen?_alloc_past _ _ _ (by first | (simp; done) | (simp; omega))])); rw [World.frozen?_alloc_at _ _ _ _ (by simp)])
       have za_w1 : w.heap.size < w1.heap.size := World.block_lt_of_cell? _ _ a0
       have zb_w1 : w.heap.size + 1 < w1.heap.size := World.block_lt_of_cell? _ _ b0))
  generalize hW : World.alloc (World.setCell w1 _ _) _ = W5
  replace a0 : W5.cell? ⟨w.heap.size, 0, none⟩ = some (.int .u32 1) := by rw [← hW]; exact Kep.all (kep_more (Kep.refl _ _) _) (sset_far a0 (by simp))
  replace a1 : W5.cell? ⟨w.heap.size, 1, none⟩ = some (.int .i32 65536) := by rw [← hW]; exact Kep.all (kep_more (Kep.refl _ _) _) (sset_far a1 (by simp))
  replace a2 : W5.cell? ⟨w.heap.size, 2, none⟩ = some (.int .i32 0) := by rw [← hW]; exact Kep.all (kep_more (Kep.refl _ _) _) (sset_far a2 (by simp))
  replace a3 : W5.cell? ⟨w.heap.size, 3, none⟩ = some (.int .i32 0) := by rw [← hW]; exact Kep.all (kep_more (Kep.refl _ _) _) (sset_far a3 (by simp))
  replace a4 : W5.cell? ⟨w.heap.size, 4, none⟩ = some (.int .i32 0) := by rw [← hW]; exact Kep.all (kep_more (Kep.refl _ _) _) (sset_far a4 (by simp))
  replace a5 : W5.cell? ⟨w.heap.size, 5, none⟩ = some (.int .i32 0) := by rw [← hW]; exact Kep.all (kep_more (Kep.refl _ _) _) (sset_far a5 (by simp))
  replace a6 : W5.cell? ⟨w.heap.size, 6, none⟩ = some (.int .i32 0) := by rw [← hW]; exact Kep.all (kep_more (Kep.refl _ _) _) (sset_far a6 (by simp))
  replace a7 : W5.cell? ⟨w.heap.size, 7, none⟩ = some (.int .i32 0) := by rw [← hW]; exact Kep.all (kep_more (Kep.refl _ _) _) (sset_far a7 (by simp))
  replace a8 : W5.cell? ⟨w.heap.size, 8, none⟩ = some (.int .i32 0) := by rw [← hW]; exact Kep.all (kep_more (Kep.refl _ _) _) (sset_far a8 (by simp))
  replace a9 : W5.cell? ⟨w.heap.size, 9, none⟩ = some (.int .i32 0) := by rw [← hW]; exact Kep.all (kep_more (Kep.refl _ _) _) (sset_far a9 (by simp))
  replace b0 : W5.cell? ⟨w.heap.size + 1, 0, none⟩ = some (.int .u32 2) := by rw [← hW]; refine Kep.all (kep_more (Kep.refl _ _) _) ?_; rw [World.cell?_setCell_other (h := by simp)]; exact b0
  replace b1 : W5.cell? ⟨w.heap.size + 1, 1, none⟩ = some (.int .i32 65536) := by rw [← hW]; refine Kep.all (kep_more (Kep.refl _ _) _) ?_; rw [World.cell?_setCell_other (h := by simp)]; exact b1
  replace b2 : W5.cell? ⟨w.heap.size + 1, 2, none⟩ = some (.int .i32 0) := by rw [← hW]; refine Kep.all (kep_more (Kep.refl _ _) _) ?_; rw [World.cell?_setCell_other (h := by simp)]; exact b2
  replace b3 : W5.cell? ⟨w.heap.size + 1, 3, none⟩ = some (.int .i32 0) := by rw [← hW]; refine Kep.all (kep_more (Kep.refl _ _) _) ?_; rw [World.cell?_setCell_other (h := by simp)]; exact b3
  replace b4 : W5.cell? ⟨w.heap.size + 1, 4, none⟩ = some (.int .i32 0) := by rw [← hW]; refine Kep.all (kep_more (Kep.refl _ _) _) ?_; rw [World.cell?_setCell_other (h := by simp)]; exact b4
  replace b5 : W5.cell? ⟨w.heap.size + 1, 5, none⟩ = some (.int .i32 0) := by rw [← hW]; refine Kep.all (kep_more (Kep.refl _ _) _) ?_; rw [World.cell?_setCell_other (h := by simp)]; exact b5
  replace b6 : W5.cell? ⟨w.heap.size + 1, 6, none⟩ = some (.int .i32 0) := by rw [← hW]; refine Kep.all (kep_more (Kep.refl _ _) _) ?_; rw [World.cell?_setCell_other (h := by simp)]; exact b6
  replace b7 : W5.cell? ⟨w.heap.size + 1, 7, none⟩ = some (.int .i32 131072) := by rw [← hW]; exact Kep.all (kep_more (Kep.refl _ _) _) (World.cell?_setCell_same' _ _ _ (by rw [b7]; rfl))
  replace b8 : W5.cell? ⟨w.heap.size + 1, 8, none⟩ = some (.int .i32 0) := by rw [← hW]; refine Kep.all (kep_more (Kep.refl _ _) _) ?_; rw [World.cell?_setCell_other (h := by simp)]; exact b8
  replace b9 : W5.cell? ⟨w.heap.size + 1, 9, none⟩ = some (.int .i32 0) := by rw [← hW]; refine Kep.all (kep_more (Kep.refl _ _) _) ?_; rw [World.cell?_setCell_other (h := by simp)]; exact b9
  have c0 : W5.cell? ⟨w1.heap.size, 0, none⟩ = some (.int .u32 1) := by rw [← hW, World.cell?_alloc_at _ _ _ _ (by simp)]; rfl
  have c1 : W5.cell? ⟨w1.heap.size, 1, none⟩ = some (.int .u32 2) := by rw [← hW, World.cell?_alloc_at _ _ _ _ (by simp)]; rfl
  have c2 : W5.cell? ⟨w1.heap.size, 2, none⟩ = some (.int .i32 0) := by rw [← hW, World.cell?_alloc_at _ _ _ _ (by simp)]; rfl
  have c3 : W5.cell? ⟨w1.heap.size, 3, none⟩ = some (.int .i32 65536) := by rw [← hW, World.cell?_alloc_at _ _ _ _ (by simp)]; rfl
  have c4 : W5.cell? ⟨w1.heap.size, 4, none⟩ = some (.int .i32 31072) := by rw [← hW, World.cell?_alloc_at _ _ _ _ (by simp)]; rfl
  replace gg : Kep w.heap.size w W5 := by rw [← hW]; exact kep_more (kep_set gg (by simp) _) _
  clear hW f7
  go_wp2_with (first
    | ((with_reducible refine (C2.out _).mono ?_); rintro e w6 ⟨rfl, g6⟩
       replace a0 := Kep.all g6 (a := ⟨w.heap.size, 0, none⟩) (v := .int .u32 1) a0
       replace a1 := Kep.all g6 (a := ⟨w.heap.size, 1, none⟩) (v := .int .i32 65536) a1
       replace a2 := Kep.all g6 (a := ⟨w.heap.size, 2, none⟩) (v := .int .i32 0) a2
       replace a3 := Kep.all g6 (a := ⟨w.heap.size, 3, none⟩) (v := .int .i32 0) a3
       replace a4 := Kep.all g6 (a := ⟨w.heap.size, 4, none⟩) (v := .int .i32 0) a4
       replace a5 := Kep.all g6 (a := ⟨w.heap.size, 5, none⟩) (v := .int .i32 0) a5
       replace a6 := Kep.all g6 (a := ⟨w.heap.size, 6, none⟩) (v := .int .i32 0) a6
       replace a7 := Kep.all g6 (a := ⟨w.heap.size, 7, none⟩) (v := .int .i32 0) a7
       replace a8 := Kep.all g6 (a := ⟨w.heap.size, 8, none⟩) (v := .int .i32 0) a8
       replace a9 := Kep.all g6 (a := ⟨w.heap.size, 9, none⟩) (v := .int .i32 0) a9
       replace b0 := Kep.all g6 (a := ⟨w.heap.size + 1, 0, none⟩) (v := .int .u32 2) b0
       replace b1 := Kep.all g6 (a := ⟨w.heap.size + 1, 1, none⟩) (v := .int .i32 65536) b1
       replace b2 := Kep.all g6 (a := ⟨w.heap.size + 1, 2, none⟩) (v := .int .i32 0) b2
       replace b3 := Kep.all g6 (a := ⟨w.heap.size + 1, 3, none⟩) (v := .int .i32 0) b3
       replace b4 := Kep.all g6 (a := ⟨w.heap.size + 1, 4, none⟩) (v := .int .i32 0) b4
       replace b5 := Kep.all g6 (a := ⟨w.heap.size + 1, 5, none⟩) (v := .int .i32 0) b5
       replace b6 := Kep.all g6 (a := ⟨w.heap.size + 1, 6, none⟩) (v := .int .i32 0) b6
       replace b7 := Kep.all g6 (a := ⟨w.heap.size + 1, 7, none⟩) (v := .int .i32 131072) b7
       replace b8 := Kep.all g6 (a := ⟨w.heap.size + 1, 8, none⟩) (v := .int .i32 0) b8
       replace b9 := Kep.all g6 (a := ⟨w.heap.size + 1, 9, none⟩) (v := .int .i32 0) b9
       replace gg := kep_next gg g6
       have za_w6 : w.heap.size < w6.heap.size := World.block_lt_of_cell? _ _ a0
       have zb_w6 : w.heap.size + 1 < w6.heap.size := World.block_lt_of_cell? _ _ b0)
    | ((with_reducible refine (C3.out _).mono ?_); rintro e w7 ⟨rfl, g7⟩
       replace a0 := Kep.all g7 (a := ⟨w.heap.size, 0, none⟩) (v := .int .u32 1) a0
       replace a1 := Kep.all g7 (a := ⟨w.heap.size, 1, none⟩) (v := .int .i32 65536) a1
       replace a2 := Kep.all g7 (a := ⟨w.heap.size, 2, none⟩) (v := .int .i32 0) a2
       replace a3 := Kep.all g7 (a := ⟨w.heap.size, 3, none⟩) (v := .int .i32 0) a3
       replace a4 := Kep.all g7 (a := ⟨w.heap.size, 4, none⟩) (v := .int .i32 0) a4
       replace a5 := Kep.all g7 (a := ⟨w.heap.size, 5, none⟩) (v := .int .i32 0) a5
       replace a6 := Kep.all g7 (a := ⟨w.heap.size, 6, none⟩) (v := .int .i32 0) a6
       replace a7 := Kep.all g7 (a := ⟨w.heap.size, 7, none⟩) (v := .int .i32 0) a7
       replace a8 := Kep.all g7 (a := ⟨w.heap.size, 8, none⟩) (v := .int .i32 0) a8
       replace a9 := Kep.all g7 (a := ⟨w.heap.size, 9, none⟩) (v := .int .i32 0) a9
       replace b0 := Kep.all g7 (a := ⟨w.heap.size + 1, 0, none⟩) (v := .int .u32 2) b0
       replace b1 := Kep.all g7 (a := ⟨w.heap.size + 1, 1, none⟩) (v := .int .i32 65536) b1
       replace b2 := Kep.all g7 (a := ⟨w.heap.size + 1, 2, none⟩) (v := .int .i32 0) b2
       replace b3 := Kep.all g7 (a := ⟨w.heap.size + 1, 3, none⟩) (v := .int .i32 0) b3
       replace b4 := Kep.all g7 (a := ⟨w.heap.size + 1, 4, none⟩) (v := .int .i32 0) b4
       replace b5 := Kep.all g7 (a := ⟨w.heap.size + 1, 5, none⟩) (v := .int .i32 0) b5
       replace b6 := Kep.all g7 (a := ⟨w.heap.size + 1, 6, none⟩) (v := .int .i32 0) b6
       replace b7 := Kep.all g7 (a := ⟨w.heap.size + 1, 7, none⟩) (v := .int .i32 131072) b7
       replace b8 := Kep.all g7 (a := ⟨w.heap.size + 1, 8, none⟩) (v := .int .i32 0) b8
       replace b9 := Kep.all g7 (a := ⟨w.heap.size + 1, 9, none⟩) (v := .int .i32 0) b9
       replace gg := kep_next gg g7
       have za_w7 : w.heap.size < w7.heap.size := World.block_lt_of_cell? _ _ a0
       have zb_w7 : w.heap.size + 1 < w7.heap.size := World.block_lt_of_cell? _ _ b0))
  go_ret
  exact ⟨rfl, gg⟩
end Go.Proofs.Ytlcenopebgkjgaa
