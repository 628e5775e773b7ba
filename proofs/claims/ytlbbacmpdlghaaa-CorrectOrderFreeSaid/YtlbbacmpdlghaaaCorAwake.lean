/-
  Package correct: the documentation's example.
-/
import Derived.Test.YtlbbacmpdlghaaaCorShift
import Derived.Deep.DeepCutAuto
import Derived.Deep.QuietTactic
import Derived.BigQuiet
namespace Go.Proofs.Ytlbbacmpdlghaaa
open Go.RowKit Go.Lib

def exSA : Bd := ⟨1, 65536, 0, 0, 65536, 0, 0, 0, 0, 0⟩
def exSB : Bd := ⟨2, 65536, 0, 0, 65536, 0, 0, 0, 0, 0⟩
def exSV : List Bd := [exSA, exSB]
def exSC : List Ct := [⟨1, 2, 65536, 0, 66560⟩]
def exSS : List Sh := [(-13107, 0), (13107, 0)]
theorem exS_arg : SArg exSV exSC := by
  refine ⟨⟨by unfold exSV exSA exSB Asc; simp [Asc], by unfold exSV; decide, by unfold exSV; decide, by decide⟩, by decide, fun c hc => ?_⟩
  simp [exSC] at hc
  subst hc
  exact ⟨⟨by decide, by rfl, by rfl, by decide, by decide⟩, by decide⟩
theorem exS_shf : shfL exSV exSC = exSS := by kernel_rfl
theorem exS_am : amI 66560 exSA exSB = 26214 := by kernel_rfl
theorem exS_am0 : amI 1024 exSA exSB = 0 := by kernel_rfl
theorem exS_sh : shI 66560 exSA exSB exSB.m = 13107 := by kernel_rfl
theorem exS_lst (W : World) : Lst (W.alloc (.cells #[.int .u32 1, .int .i32 65536, .int .i32 0, .int .i32 0, .int .i32 65536, .int .i32 0, .int .i32 0, .int .i32 0, .int .i32 0, .int .i32 0, .int .u32 2, .int .i32 65536, .int .i32 0, .int .i32 0, .int .i32 65536, .int .i32 0, .int .i32 0, .int .i32 0, .int .i32 0, .int .i32 0] 32)) (.slice (some ⟨W.heap.size, 0, none⟩) 2 2) exSV :=
  .inr ⟨_, 0, 2, rfl, fun k x hx i hi => by
    rw [World.cell?_alloc_at _ _ _ _ rfl]
    rcases k with _ | _ | k
    · simp [exSV, exSA] at hx; subst hx; rcases i with _ | _ | _ | _ | _ | _ | _ | _ | _ | _ | i <;> first | rfl | omega
    · simp [exSV, exSB] at hx; subst hx; rcases i with _ | _ | _ | _ | _ | _ | _ | _ | _ | _ | i <;> first | rfl | omega
    · simp [exSV] at hx⟩
theorem exS_ct (W : World) (k : Nat) (hk : k = W.heap.size) : Sq ctv 5 (W.alloc (.cells #[.int .u32 1, .int .u32 2, .int .i32 65536, .int .i32 0, .int .i32 66560] 37)) (.slice (some ⟨k, 0, none⟩) 1 1) exSC := sq_new ctv_len W exSC _ rfl _ _ hk _ _ rfl
theorem exS_new (W : World) : Sq shv 2 (W.alloc (.cells #[.int .i64 (-13107), .int .i64 0, .int .i64 13107, .int .i64 0] 56)) (.slice (some ⟨W.heap.size, 0, none⟩) 2 2) exSS := sq_new shv_len W exSS _ rfl _ _ rfl _ _ rfl
set_option maxRecDepth 100000 in
set_option maxHeartbeats 4000000 in
theorem cor_awake (O : SOps) : SAwake := fun w => by
  have va : Vb exSA := vb_of (by decide)
  have vb : Vb exSB := vb_of (by decide)
  have HS := Lib.hid (fun v l w h k => (show Calls Try.prog 18 #[v, l] w fun e w' => ∃ v', e = .returned v' ∧ Sq shv 2 w' v' exSS ∧ Kep w.heap.size w w' by
    refine (O.shf v exSV l exSC w h k exS_arg).mono ?_
    rintro e w' ⟨v', rfl, ⟨hl, -⟩, hk⟩
    rw [exS_shf] at hl
    exact ⟨v', rfl, hl, hk⟩))
  have C1 := Lib.hid (fun w => (show Calls Try.prog 12 #[.agg #[.int .u32 1, .int .u32 2, .int .i32 65536, .int .i32 0, .int .i32 66560], .agg #[.int .u32 1, .int .i32 65536, .int .i32 0, .int .i32 0, .int .i32 65536, .int .i32 0, .int .i32 0, .int .i32 0, .int .i32 0, .int .i32 0], .agg #[.int .u32 2, .int .i32 65536, .int .i32 0, .int .i32 0, .int .i32 65536, .int .i32 0, .int .i32 0, .int .i32 0, .int .i32 0, .int .i32 0]] w fun e w' => e = .returned (.int .i64 26214) ∧ Kep w.heap.size w w' by
    have := O.amt (lo := 1) (hi := 2) (nx := 65536) (ny := 0) (dp := 66560) va vb (by decide) w
    rw [exS_am] at this
    exact this))
  have C2 := Lib.hid (fun w => (show Calls Try.prog 12 #[.agg #[.int .u32 1, .int .u32 2, .int .i32 65536, .int .i32 0, .int .i32 1024], .agg #[.int .u32 1, .int .i32 65536, .int .i32 0, .int .i32 0, .int .i32 65536, .int .i32 0, .int .i32 0, .int .i32 0, .int .i32 0, .int .i32 0], .agg #[.int .u32 2, .int .i32 65536, .int .i32 0, .int .i32 0, .int .i32 65536, .int .i32 0, .int .i32 0, .int .i32 0, .int .i32 0, .int .i32 0]] w fun e w' => e = .returned (.int .i64 0) ∧ Kep w.heap.size w w' by
    have := O.amt (lo := 1) (hi := 2) (nx := 65536) (ny := 0) (dp := 1024) va vb (by decide) w
    rw [exS_am0] at this
    exact this))
  have C3 := Lib.hid (fun w => (show Calls Try.prog 14 #[.agg #[.int .u32 1, .int .u32 2, .int .i32 65536, .int .i32 0, .int .i32 66560], .agg #[.int .u32 1, .int .i32 65536, .int .i32 0, .int .i32 0, .int .i32 65536, .int .i32 0, .int .i32 0, .int .i32 0, .int .i32 0, .int .i32 0], .agg #[.int .u32 2, .int .i32 65536, .int .i32 0, .int .i32 0, .int .i32 65536, .int .i32 0, .int .i32 0, .int .i32 0, .int .i32 0, .int .i32 0], .bool true] w fun e w' => e = .returned (.int .i64 13107) ∧ Kep w.heap.size w w' by
    have := O.shr (lo := 1) (hi := 2) (nx := 65536) (ny := 0) (dp := 66560) true va vb (by decide) w
    rw [if_pos rfl, exS_sh] at this
    exact this))
  have TS := Lib.hid (fun v w h => lsh exSS (by decide) v w h)
  have RM := Lib.hid (fun va vb w h1 h2 => rsm exSS (by decide) va vb w h1 h2)
  clear va vb
  go_enter Try.func9, Try.ntmps9
  go_upto_region 4 with fail
  generalize hW : World.alloc (World.alloc (World.alloc w _) _) _ = W3
  have x0 : W3.cell? ⟨w.heap.size, 0, none⟩ = some (.int .u32 1) := by rw [← hW, World.cell?_alloc_past _ _ _ (by first | (simp; done) | (simp; omega)), World.cell?_alloc_past _ _ _ (by first | (simp; done) | (simp; omega)), World.cell?_alloc_at _ _ _ _ (by simp)]; rfl
  have x1 : W3.cell? ⟨w.heap.size, 1, none⟩ = some (.int .i32 65536) := by rw [← hW, World.cell?_alloc_past _ _ _ (by first | (simp; done) | (simp; omega)), World.cell?_alloc_past _ _ _ (by first | (simp; done) | (simp; omega)), World.cell?_alloc_at _ _ _ _ (by simp)]; rfl
  have x2 : W3.cell? ⟨w.heap.size, 2, none⟩ = some (.int .i32 0) := by rw [← hW, World.cell?_alloc_past _ _ _ (by first | (simp; done) | (simp; omega)), World.cell?_alloc_past _ _ _ (by first | (simp; done) | (simp; omega)), World.cell?_alloc_at _ _ _ _ (by simp)]; rfl
  have x3 : W3.cell? ⟨w.heap.size, 3, none⟩ = some (.int .i32 0) := by rw [← hW, World.cell?_alloc_past _ _ _ (by first | (simp; done) | (simp; omega)), World.cell?_alloc_past _ _ _ (by first | (simp; done) | (simp; omega)), World.cell?_alloc_at _ _ _ _ (by simp)]; rfl
  have x4 : W3.cell? ⟨w.heap.size, 4, none⟩ = some (.int .i32 65536) := by rw [← hW, World.cell?_alloc_past _ _ _ (by first | (simp; done) | (simp; omega)), World.cell?_alloc_past _ _ _ (by first | (simp; done) | (simp; omega)), World.cell?_alloc_at _ _ _ _ (by simp)]; rfl
  have x5 : W3.cell? ⟨w.heap.size, 5, none⟩ = some (.int .i32 0) := by rw [← hW, World.cell?_alloc_past _ _ _ (by first | (simp; done) | (simp; omega)), World.cell?_alloc_past _ _ _ (by first | (simp; done) | (simp; omega)), World.cell?_alloc_at _ _ _ _ (by simp)]; rfl
  have x6 : W3.cell? ⟨w.heap.size, 6, none⟩ = some (.int .i32 0) := by rw [← hW, World.cell?_alloc_past _ _ _ (by first | (simp; done) | (simp; omega)), World.cell?_alloc_past _ _ _ (by first | (simp; done) | (simp; omega)), World.cell?_alloc_at _ _ _ _ (by simp)]; rfl
  have x7 : W3.cell? ⟨w.heap.size, 7, none⟩ = some (.int .i32 0) := by rw [← hW, World.cell?_alloc_past _ _ _ (by first | (simp; done) | (simp; omega)), World.cell?_alloc_past _ _ _ (by first | (simp; done) | (simp; omega)), World.cell?_alloc_at _ _ _ _ (by simp)]; rfl
  have x8 : W3.cell? ⟨w.heap.size, 8, none⟩ = some (.int .i32 0) := by rw [← hW, World.cell?_alloc_past _ _ _ (by first | (simp; done) | (simp; omega)), World.cell?_alloc_past _ _ _ (by first | (simp; done) | (simp; omega)), World.cell?_alloc_at _ _ _ _ (by simp)]; rfl
  have x9 : W3.cell? ⟨w.heap.size, 9, none⟩ = some (.int .i32 0) := by rw [← hW, World.cell?_alloc_past _ _ _ (by first | (simp; done) | (simp; omega)), World.cell?_alloc_past _ _ _ (by first | (simp; done) | (simp; omega)), World.cell?_alloc_at _ _ _ _ (by simp)]; rfl
  have y0 : W3.cell? ⟨w.heap.size + 1, 0, none⟩ = some (.int .u32 2) := by rw [← hW, World.cell?_alloc_past _ _ _ (by first | (simp; done) | (simp; omega)), World.cell?_alloc_at _ _ _ _ (by simp)]; rfl
  have y1 : W3.cell? ⟨w.heap.size + 1, 1, none⟩ = some (.int .i32 65536) := by rw [← hW, World.cell?_alloc_past _ _ _ (by first | (simp; done) | (simp; omega)), World.cell?_alloc_at _ _ _ _ (by simp)]; rfl
  have y2 : W3.cell? ⟨w.heap.size + 1, 2, none⟩ = some (.int .i32 0) := by rw [← hW, World.cell?_alloc_past _ _ _ (by first | (simp; done) | (simp; omega)), World.cell?_alloc_at _ _ _ _ (by simp)]; rfl
  have y3 : W3.cell? ⟨w.heap.size + 1, 3, none⟩ = some (.int .i32 0) := by rw [← hW, World.cell?_alloc_past _ _ _ (by first | (simp; done) | (simp; omega)), World.cell?_alloc_at _ _ _ _ (by simp)]; rfl
  have y4 : W3.cell? ⟨w.heap.size + 1, 4, none⟩ = some (.int .i32 65536) := by rw [← hW, World.cell?_alloc_past _ _ _ (by first | (simp; done) | (simp; omega)), World.cell?_alloc_at _ _ _ _ (by simp)]; rfl
  have y5 : W3.cell? ⟨w.heap.size + 1, 5, none⟩ = some (.int .i32 0) := by rw [← hW, World.cell?_alloc_past _ _ _ (by first | (simp; done) | (simp; omega)), World.cell?_alloc_at _ _ _ _ (by simp)]; rfl
  have y6 : W3.cell? ⟨w.heap.size + 1, 6, none⟩ = some (.int .i32 0) := by rw [← hW, World.cell?_alloc_past _ _ _ (by first | (simp; done) | (simp; omega)), World.cell?_alloc_at _ _ _ _ (by simp)]; rfl
  have y7 : W3.cell? ⟨w.heap.size + 1, 7, none⟩ = some (.int .i32 0) := by rw [← hW, World.cell?_alloc_past _ _ _ (by first | (simp; done) | (simp; omega)), World.cell?_alloc_at _ _ _ _ (by simp)]; rfl
  have y8 : W3.cell? ⟨w.heap.size + 1, 8, none⟩ = some (.int .i32 0) := by rw [← hW, World.cell?_alloc_past _ _ _ (by first | (simp; done) | (simp; omega)), World.cell?_alloc_at _ _ _ _ (by simp)]; rfl
  have y9 : W3.cell? ⟨w.heap.size + 1, 9, none⟩ = some (.int .i32 0) := by rw [← hW, World.cell?_alloc_past _ _ _ (by first | (simp; done) | (simp; omega)), World.cell?_alloc_at _ _ _ _ (by simp)]; rfl
  have c0 : W3.cell? ⟨w.heap.size + 1 + 1, 0, none⟩ = some (.int .u32 1) := by rw [← hW, World.cell?_alloc_at _ _ _ _ (by simp)]; rfl
  have c1 : W3.cell? ⟨w.heap.size + 1 + 1, 1, none⟩ = some (.int .u32 2) := by rw [← hW, World.cell?_alloc_at _ _ _ _ (by simp)]; rfl
  have c2 : W3.cell? ⟨w.heap.size + 1 + 1, 2, none⟩ = some (.int .i32 65536) := by rw [← hW, World.cell?_alloc_at _ _ _ _ (by simp)]; rfl
  have c3 : W3.cell? ⟨w.heap.size + 1 + 1, 3, none⟩ = some (.int .i32 0) := by rw [← hW, World.cell?_alloc_at _ _ _ _ (by simp)]; rfl
  have c4 : W3.cell? ⟨w.heap.size + 1 + 1, 4, none⟩ = some (.int .i32 66560) := by rw [← hW, World.cell?_alloc_at _ _ _ _ (by simp)]; rfl
  have gg : Kep w.heap.size w W3 := by rw [← hW]; exact kep_more (kep_more (kep_more (Kep.refl _ _) _) _) _
  clear hW
  have zx_W3 : w.heap.size < W3.heap.size := World.block_lt_of_cell? _ _ x0
  have zy_W3 : w.heap.size + 1 < W3.heap.size := World.block_lt_of_cell? _ _ y0
  have zc_W3 : w.heap.size + 1 + 1 < W3.heap.size := World.block_lt_of_cell? _ _ c0
  go_upto_region 5 with ((with_reducible refine (HS.out _ _ _ ((exS_lst _).kep (kep_more (Kep.refl _ _) _)) (exS_ct _ _ (by first | rfl | simp))).mono ?_); rintro e w5 ⟨v5, rfl, s5, g5⟩; replace x0 := Kep.all g5 (a := ⟨w.heap.size, 0, none⟩) (v := .int .u32 1) (Kep.all (kep_more (kep_more (Kep.refl _ _) _) _) x0); replace x1 := Kep.all g5 (a := ⟨w.heap.size, 1, none⟩) (v := .int .i32 65536) (Kep.all (kep_more (kep_more (Kep.refl _ _) _) _) x1); replace x2 := Kep.all g5 (a := ⟨w.heap.size, 2, none⟩) (v := .int .i32 0) (Kep.all (kep_more (kep_more (Kep.refl _ _) _) _) x2); replace x3 := Kep.all g5 (a := ⟨w.heap.size, 3, none⟩) (v := .int .i32 0) (Kep.all (kep_more (kep_more (Kep.refl _ _) _) _) x3); replace x4 := Kep.all g5 (a := ⟨w.heap.size, 4, none⟩) (v := .int .i32 65536) (Kep.all (kep_more (kep_more (Kep.refl _ _) _) _) x4); replace x5 := Kep.all g5 (a := ⟨w.heap.size, 5, none⟩) (v := .int .i32 0) (Kep.all (kep_more (kep_more (Kep.refl _ _) _) _) x5); replace x6 := Kep.all g5 (a := ⟨w.heap.size, 6, none⟩) (v := .int .i32 0) (Kep.all (kep_more (kep_more (Kep.refl _ _) _) _) x6); replace x7 := Kep.all g5 (a := ⟨w.heap.size, 7, none⟩) (v := .int .i32 0) (Kep.all (kep_more (kep_more (Kep.refl _ _) _) _) x7); replace x8 := Kep.all g5 (a := ⟨w.heap.size, 8, none⟩) (v := .int .i32 0) (Kep.all (kep_more (kep_more (Kep.refl _ _) _) _) x8); replace x9 := Kep.all g5 (a := ⟨w.heap.size, 9, none⟩) (v := .int .i32 0) (Kep.all (kep_more (kep_more (Kep.refl _ _) _) _) x9); replace y0 := Kep.all g5 (a := ⟨w.heap.size + 1, 0, none⟩) (v := .int .u32 2) (Kep.all (kep_more (kep_more (Kep.refl _ _) _) _) y0); replace y1 := Kep.all g5 (a := ⟨w.heap.size + 1, 1, none⟩) (v := .int .i32 65536) (Kep.all (kep_more (kep_more (Kep.refl _ _) _) _) y1); replace y2 := Kep.all g5 (a := ⟨w.heap.size + 1, 2, none⟩) (v := .int .i32 0) (Kep.all (kep_more (kep_more (Kep.refl _ _) _) _) y2); replace y3 := Kep.all g5 (a := ⟨w.heap.size + 1, 3, none⟩) (v := .int .i32 0) (Kep.all (kep_more (kep_more (Kep.refl _ _) _) _) y3); replace y4 := Kep.all g5 (a := ⟨w.heap.size + 1, 4, none⟩) (v := .int .i32 65536) (Kep.all (kep_more (kep_more (Kep.refl _ _) _) _) y4); replace y5 := Kep.all g5 (a := ⟨w.heap.size + 1, 5, none⟩) (v := .int .i32 0) (Kep.all (kep_more (kep_more (Kep.refl _ _) _) _) y5); replace y6 := Kep.all g5 (a := ⟨w.heap.size + 1, 6, none⟩) (v := .int .i32 0) (Kep.all (kep_more (kep_more (Kep.refl _ _) _) _) y6); replace y7 := Kep.all g5 (a := ⟨w.heap.size + 1, 7, none⟩) (v := .int .i32 0) (Kep.all (kep_more (kep_more (Kep.refl _ _) _) _) y7); replace y8 := Kep.all g5 (a := ⟨w.heap.size + 1, 8, none⟩) (v := .int .i32 0) (Kep.all (kep_more (kep_more (Kep.refl _ _) _) _) y8); replace y9 := Kep.all g5 (a := ⟨w.heap.size + 1, 9, none⟩) (v := .int .i32 0) (Kep.all (kep_more (kep_more (Kep.refl _ _) _) _) y9); replace c0 := Kep.all g5 (a := ⟨w.heap.size + 1 + 1, 0, none⟩) (v := .int .u32 1) (Kep.all (kep_more (kep_more (Kep.refl _ _) _) _) c0); replace c1 := Kep.all g5 (a := ⟨w.heap.size + 1 + 1, 1, none⟩) (v := .int .u32 2) (Kep.all (kep_more (kep_more (Kep.refl _ _) _) _) c1); replace c2 := Kep.all g5 (a := ⟨w.heap.size + 1 + 1, 2, none⟩) (v := .int .i32 65536) (Kep.all (kep_more (kep_more (Kep.refl _ _) _) _) c2); replace c3 := Kep.all g5 (a := ⟨w.heap.size + 1 + 1, 3, none⟩) (v := .int .i32 0) (Kep.all (kep_more (kep_more (Kep.refl _ _) _) _) c3); replace c4 := Kep.all g5 (a := ⟨w.heap.size + 1 + 1, 4, none⟩) (v := .int .i32 66560) (Kep.all (kep_more (kep_more (Kep.refl _ _) _) _) c4); replace gg := kep_next (kep_more (kep_more gg _) _) g5; have zx_w5 : w.heap.size < w5.heap.size := World.block_lt_of_cell? _ _ x0; have zy_w5 : w.heap.size + 1 < w5.heap.size := World.block_lt_of_cell? _ _ y0; have zc_w5 : w.heap.size + 1 + 1 < w5.heap.size := World.block_lt_of_cell? _ _ c0)
  go_upto_region 7 with fail
  generalize hW : World.alloc w5 _ = W6
  have d0 : W6.cell? ⟨w5.heap.size, 0, none⟩ = some (.int .u32 1) := by rw [← hW, World.cell?_alloc_at _ _ _ _ (by simp)]; rfl
  have d1 : W6.cell? ⟨w5.heap.size, 1, none⟩ = some (.int .u32 2) := by rw [← hW, World.cell?_alloc_at _ _ _ _ (by simp)]; rfl
  have d2 : W6.cell? ⟨w5.heap.size, 2, none⟩ = some (.int .i32 65536) := by rw [← hW, World.cell?_alloc_at _ _ _ _ (by simp)]; rfl
  have d3 : W6.cell? ⟨w5.heap.size, 3, none⟩ = some (.int .i32 0) := by rw [← hW, World.cell?_alloc_at _ _ _ _ (by simp)]; rfl
  have d4 : W6.cell? ⟨w5.heap.size, 4, none⟩ = some (.int .i32 1024) := by rw [← hW, World.cell?_alloc_at _ _ _ _ (by simp)]; rfl
  have k6 : Kep w5.heap.size w5 W6 := by rw [← hW]; exact kep_more (Kep.refl _ _) _
  replace x0 := k6.all x0
  replace x1 := k6.all x1
  replace x2 := k6.all x2
  replace x3 := k6.all x3
  replace x4 := k6.all x4
  replace x5 := k6.all x5
  replace x6 := k6.all x6
  replace x7 := k6.all x7
  replace x8 := k6.all x8
  replace x9 := k6.all x9
  replace y0 := k6.all y0
  replace y1 := k6.all y1
  replace y2 := k6.all y2
  replace y3 := k6.all y3
  replace y4 := k6.all y4
  replace y5 := k6.all y5
  replace y6 := k6.all y6
  replace y7 := k6.all y7
  replace y8 := k6.all y8
  replace y9 := k6.all y9
  replace c0 := k6.all c0
  replace c1 := k6.all c1
  replace c2 := k6.all c2
  replace c3 := k6.all c3
  replace c4 := k6.all c4
  replace gg := kep_next gg k6
  replace s5 := s5.kep k6
  clear hW k6
  generalize w5.heap.size = db at *
  have zx_W6 : w.heap.size < W6.heap.size := World.block_lt_of_cell? _ _ x0
  have zy_W6 : w.heap.size + 1 < W6.heap.size := World.block_lt_of_cell? _ _ y0
  have zc_W6 : w.heap.size + 1 + 1 < W6.heap.size := World.block_lt_of_cell? _ _ c0
  have zd_W6 : db < W6.heap.size := World.block_lt_of_cell? _ _ d0
  go_wp2_with (first
    | ((with_reducible refine (C1.out _).mono ?_); rintro e w7 ⟨rfl, g7⟩
       replace s5 := s5.kep g7
       replace x0 := Kep.all g7 (a := ⟨w.heap.size, 0, none⟩) (v := .int .u32 1) x0
       replace x1 := Kep.all g7 (a := ⟨w.heap.size, 1, none⟩) (v := .int .i32 65536) x1
       replace x2 := Kep.all g7 (a := ⟨w.heap.size, 2, none⟩) (v := .int .i32 0) x2
       replace x3 := Kep.all g7 (a := ⟨w.heap.size, 3, none⟩) (v := .int .i32 0) x3
       replace x4 := Kep.all g7 (a := ⟨w.heap.size, 4, none⟩) (v := .int .i32 65536) x4
       replace x5 := Kep.all g7 (a := ⟨w.heap.size, 5, none⟩) (v := .int .i32 0) x5
       replace x6 := Kep.all g7 (a := ⟨w.heap.size, 6, none⟩) (v := .int .i32 0) x6
       replace x7 := Kep.all g7 (a := ⟨w.heap.size, 7, none⟩) (v := .int .i32 0) x7
       replace x8 := Kep.all g7 (a := ⟨w.heap.size, 8, none⟩) (v := .int .i32 0) x8
       replace x9 := Kep.all g7 (a := ⟨w.heap.size, 9, none⟩) (v := .int .i32 0) x9
       replace y0 := Kep.all g7 (a := ⟨w.heap.size + 1, 0, none⟩) (v := .int .u32 2) y0
       replace y1 := Kep.all g7 (a := ⟨w.heap.size + 1, 1, none⟩) (v := .int .i32 65536) y1
       replace y2 := Kep.all g7 (a := ⟨w.heap.size + 1, 2, none⟩) (v := .int .i32 0) y2
       replace y3 := Kep.all g7 (a := ⟨w.heap.size + 1, 3, none⟩) (v := .int .i32 0) y3
       replace y4 := Kep.all g7 (a := ⟨w.heap.size + 1, 4, none⟩) (v := .int .i32 65536) y4
       replace y5 := Kep.all g7 (a := ⟨w.heap.size + 1, 5, none⟩) (v := .int .i32 0) y5
       replace y6 := Kep.all g7 (a := ⟨w.heap.size + 1, 6, none⟩) (v := .int .i32 0) y6
       replace y7 := Kep.all g7 (a := ⟨w.heap.size + 1, 7, none⟩) (v := .int .i32 0) y7
       replace y8 := Kep.all g7 (a := ⟨w.heap.size + 1, 8, none⟩) (v := .int .i32 0) y8
       replace y9 := Kep.all g7 (a := ⟨w.heap.size + 1, 9, none⟩) (v := .int .i32 0) y9
       replace c0 := Kep.all g7 (a := ⟨w.heap.size + 1 + 1, 0, none⟩) (v := .int .u32 1) c0
       replace c1 := Kep.all g7 (a := ⟨w.heap.size + 1 + 1, 1, none⟩) (v := .int .u32 2) c1
       replace c2 := Kep.all g7 (a := ⟨w.heap.size + 1 + 1, 2, none⟩) (v := .int .i32 65536) c2
       replace c3 := Kep.all g7 (a := ⟨w.heap.size + 1 + 1, 3, none⟩) (v := .int .i32 0) c3
       replace c4 := Kep.all g7 (a := ⟨w.heap.size + 1 + 1, 4, none⟩) (v := .int .i32 66560) c4
       replace d0 := Kep.all g7 (a := ⟨db, 0, none⟩) (v := .int .u32 1) d0
       replace d1 := Kep.all g7 (a := ⟨db, 1, none⟩) (v := .int .u32 2) d1
       replace d2 := Kep.all g7 (a := ⟨db, 2, none⟩) (v := .int .i32 65536) d2
       replace d3 := Kep.all g7 (a := ⟨db, 3, none⟩) (v := .int .i32 0) d3
       replace d4 := Kep.all g7 (a := ⟨db, 4, none⟩) (v := .int .i32 1024) d4
       replace gg := kep_next gg g7
       have zx_w7 : w.heap.size < w7.heap.size := World.block_lt_of_cell? _ _ x0
       have zy_w7 : w.heap.size + 1 < w7.heap.size := World.block_lt_of_cell? _ _ y0
       have zc_w7 : w.heap.size + 1 + 1 < w7.heap.size := World.block_lt_of_cell? _ _ c0
       have zd_w7 : db < w7.heap.size := World.block_lt_of_cell? _ _ d0)
    | ((with_reducible refine (C2.out _).mono ?_); rintro e w8 ⟨rfl, g8⟩
       replace s5 := s5.kep g8
       replace x0 := Kep.all g8 (a := ⟨w.heap.size, 0, none⟩) (v := .int .u32 1) x0
       replace x1 := Kep.all g8 (a := ⟨w.heap.size, 1, none⟩) (v := .int .i32 65536) x1
       replace x2 := Kep.all g8 (a := ⟨w.heap.size, 2, none⟩) (v := .int .i32 0) x2
       replace x3 := Kep.all g8 (a := ⟨w.heap.size, 3, none⟩) (v := .int .i32 0) x3
       replace x4 := Kep.all g8 (a := ⟨w.heap.size, 4, none⟩) (v := .int .i32 65536) x4
       replace x5 := Kep.all g8 (a := ⟨w.heap.size, 5, none⟩) (v := .int .i32 0) x5
       replace x6 := Kep.all g8 (a := ⟨w.heap.size, 6, none⟩) (v := .int .i32 0) x6
       replace x7 := Kep.all g8 (a := ⟨w.heap.size, 7, none⟩) (v := .int .i32 0) x7
       replace x8 := Kep.all g8 (a := ⟨w.heap.size, 8, none⟩) (v := .int .i32 0) x8
       replace x9 := Kep.all g8 (a := ⟨w.heap.size, 9, none⟩) (v := .int .i32 0) x9
       replace y0 := Kep.all g8 (a := ⟨w.heap.size + 1, 0, none⟩) (v := .int .u32 2) y0
       replace y1 := Kep.all g8 (a := ⟨w.heap.size + 1, 1, none⟩) (v := .int .i32 65536) y1
       replace y2 := Kep.all g8 (a := ⟨w.heap.size + 1, 2, none⟩) (v := .int .i32 0) y2
       replace y3 := Kep.all g8 (a := ⟨w.heap.size + 1, 3, none⟩) (v := .int .i32 0) y3
       replace y4 := Kep.all g8 (a := ⟨w.heap.size + 1, 4, none⟩) (v := .int .i32 65536) y4
       replace y5 := Kep.all g8 (a := ⟨w.heap.size + 1, 5, none⟩) (v := .int .i32 0) y5
       replace y6 := Kep.all g8 (a := ⟨w.heap.size + 1, 6, none⟩) (v := .int .i32 0) y6
       replace y7 := Kep.all g8 (a := ⟨w.heap.size + 1, 7, none⟩) (v := .int .i32 0) y7
       replace y8 := Kep.all g8 (a := ⟨w.heap.size + 1, 8, none⟩) (v := .int .i32 0) y8
       replace y9 := Kep.all g8 (a := ⟨w.heap.size + 1, 9, none⟩) (v := .int .i32 0) y9
       replace c0 := Kep.all g8 (a := ⟨w.heap.size + 1 + 1, 0, none⟩) (v := .int .u32 1) c0
       replace c1 := Kep.all g8 (a := ⟨w.heap.size + 1 + 1, 1, none⟩) (v := .int .u32 2) c1
       replace c2 := Kep.all g8 (a := ⟨w.heap.size + 1 + 1, 2, none⟩) (v := .int .i32 65536) c2
       replace c3 := Kep.all g8 (a := ⟨w.heap.size + 1 + 1, 3, none⟩) (v := .int .i32 0) c3
       replace c4 := Kep.all g8 (a := ⟨w.heap.size + 1 + 1, 4, none⟩) (v := .int .i32 66560) c4
       replace d0 := Kep.all g8 (a := ⟨db, 0, none⟩) (v := .int .u32 1) d0
       replace d1 := Kep.all g8 (a := ⟨db, 1, none⟩) (v := .int .u32 2) d1
       replace d2 := Kep.all g8 (a := ⟨db, 2, none⟩) (v := .int .i32 65536) d2
       replace d3 := Kep.all g8 (a := ⟨db, 3, none⟩) (v := .int .i32 0) d3
       replace d4 := Kep.all g8 (a := ⟨db, 4, none⟩) (v := .int .i32 1024) d4
       replace gg := kep_next gg g8
       have zx_w8 : w.heap.size < w8.heap.size := World.block_lt_of_cell? _ _ x0
       have zy_w8 : w.heap.size + 1 < w8.heap.size := World.block_lt_of_cell? _ _ y0
       have zc_w8 : w.heap.size + 1 + 1 < w8.heap.size := World.block_lt_of_cell? _ _ c0
       have zd_w8 : db < w8.heap.size := World.block_lt_of_cell? _ _ d0)
    | ((with_reducible refine (C3.out _).mono ?_); rintro e w9 ⟨rfl, g9⟩
       replace s5 := s5.kep g9
       replace x0 := Kep.all g9 (a := ⟨w.heap.size, 0, none⟩) (v := .int .u32 1) x0
       replace x1 := Kep.all g9 (a := ⟨w.heap.size, 1, none⟩) (v := .int .i32 65536) x1
       replace x2 := Kep.all g9 (a := ⟨w.heap.size, 2, none⟩) (v := .int .i32 0) x2
       replace x3 := Kep.all g9 (a := ⟨w.heap.size, 3, none⟩) (v := .int .i32 0) x3
       replace x4 := Kep.all g9 (a := ⟨w.heap.size, 4, none⟩) (v := .int .i32 65536) x4
       replace x5 := Kep.all g9 (a := ⟨w.heap.size, 5, none⟩) (v := .int .i32 0) x5
       replace x6 := Kep.all g9 (a := ⟨w.heap.size, 6, none⟩) (v := .int .i32 0) x6
       replace x7 := Kep.all g9 (a := ⟨w.heap.size, 7, none⟩) (v := .int .i32 0) x7
       replace x8 := Kep.all g9 (a := ⟨w.heap.size, 8, none⟩) (v := .int .i32 0) x8
       replace x9 := Kep.all g9 (a := ⟨w.heap.size, 9, none⟩) (v := .int .i32 0) x9
       replace y0 := Kep.all g9 (a := ⟨w.heap.size + 1, 0, none⟩) (v := .int .u32 2) y0
       replace y1 := Kep.all g9 (a := ⟨w.heap.size + 1, 1, none⟩) (v := .int .i32 65536) y1
       replace y2 := Kep.all g9 (a := ⟨w.heap.size + 1, 2, none⟩) (v := .int .i32 0) y2
       replace y3 := Kep.all g9 (a := ⟨w.heap.size + 1, 3, none⟩) (v := .int .i32 0) y3
       replace y4 := Kep.all g9 (a := ⟨w.heap.size + 1, 4, none⟩) (v := .int .i32 65536) y4
       replace y5 := Kep.all g9 (a := ⟨w.heap.size + 1, 5, none⟩) (v := .int .i32 0) y5
       replace y6 := Kep.all g9 (a := ⟨w.heap.size + 1, 6, none⟩) (v := .int .i32 0) y6
       replace y7 := Kep.all g9 (a := ⟨w.heap.size + 1, 7, none⟩) (v := .int .i32 0) y7
       replace y8 := Kep.all g9 (a := ⟨w.heap.size + 1, 8, none⟩) (v := .int .i32 0) y8
       replace y9 := Kep.all g9 (a := ⟨w.heap.size + 1, 9, none⟩) (v := .int .i32 0) y9
       replace c0 := Kep.all g9 (a := ⟨w.heap.size + 1 + 1, 0, none⟩) (v := .int .u32 1) c0
       replace c1 := Kep.all g9 (a := ⟨w.heap.size + 1 + 1, 1, none⟩) (v := .int .u32 2) c1
       replace c2 := Kep.all g9 (a := ⟨w.heap.size + 1 + 1, 2, none⟩) (v := .int .i32 65536) c2
       replace c3 := Kep.all g9 (a := ⟨w.heap.size + 1 + 1, 3, none⟩) (v := .int .i32 0) c3
       replace c4 := Kep.all g9 (a := ⟨w.heap.size + 1 + 1, 4, none⟩) (v := .int .i32 66560) c4
       replace d0 := Kep.all g9 (a := ⟨db, 0, none⟩) (v := .int .u32 1) d0
       replace d1 := Kep.all g9 (a := ⟨db, 1, none⟩) (v := .int .u32 2) d1
       replace d2 := Kep.all g9 (a := ⟨db, 2, none⟩) (v := .int .i32 65536) d2
       replace d3 := Kep.all g9 (a := ⟨db, 3, none⟩) (v := .int .i32 0) d3
       replace d4 := Kep.all g9 (a := ⟨db, 4, none⟩) (v := .int .i32 1024) d4
       replace gg := kep_next gg g9
       have zx_w9 : w.heap.size < w9.heap.size := World.block_lt_of_cell? _ _ x0
       have zy_w9 : w.heap.size + 1 < w9.heap.size := World.block_lt_of_cell? _ _ y0
       have zc_w9 : w.heap.size + 1 + 1 < w9.heap.size := World.block_lt_of_cell? _ _ c0
       have zd_w9 : db < w9.heap.size := World.block_lt_of_cell? _ _ d0)
    | ((with_reducible refine (TS.out _ _ s5).mono ?_); rintro e w10 ⟨v10, rfl, s10, g10⟩; replace gg := kep_next gg g10)
    | ((with_reducible refine (RM.out _ _ _ (s10.kep (kep_more (Kep.refl _ _) _)) (exS_new _)).mono ?_); rintro e w11 ⟨rfl, g11⟩; replace gg := kep_next (kep_more gg _) g11))
  go_ret
  exact ⟨rfl, gg⟩
end Go.Proofs.Ytlbbacmpdlghaaa
