/-
  Package integrate: the law IntegrateFalls.
-/
import Derived.Test.YtlabeelbbkbkaaaIntCon
import Derived.Deep.DeepCutAuto
import Derived.Deep.QuietTactic
import Derived.BigQuiet
namespace Go.Proofs.Ytlabeelbbkbkaaa
open Go.RowKit Go.Lib

/-- The velocity of a body that falls, behind k steps. -/
def falY (x : Bd) (k : Nat) : Int := max (x.vy - 1024 * (k : Int)) (-16777216)
theorem fal_zero {x : Bd} (h : Vb x) : velB x x.vx (falY x 0) = x := by
  have := h.vy0
  have e : falY x 0 = x.vy := by unfold falY; omega
  rw [e]
  rfl
theorem fal_next {x : Bd} (h : Vb x) (hm : 0 < x.m) (k : Nat) : [velB x x.vx (falY x k)].map grvB = [velB x x.vx (falY x (k + 1))] := by
  have h1 := h.vy1
  show [grvB (velB x x.vx (falY x k))] = _
  have e : grvB (velB x x.vx (falY x k)) = velB x x.vx (limJ (falY x k - 1024)) := if_pos hm
  have e2 : limJ (falY x k - 1024) = falY x (k + 1) := by unfold limJ falY; omega
  rw [e, e2]
theorem fal_bd {x : Bd} (h : Vb x) (k : Nat) : -16777216 ≤ falY x k ∧ falY x k ≤ 16777216 := by
  have := h.vy1
  unfold falY
  omega
set_option maxRecDepth 100000 in
set_option maxHeartbeats 2000000 in
theorem yfl_bad (AW : Hid YAwake) (x : Bd) (N : Nat) (c : Int) (CX : Hid (YCk x c)) (h0 : (c != 0) = true) (w : World) : Calls Try.prog 7 #[.agg #[.int .u32 x.k, .int .i32 x.r, .int .i32 x.ax, .int .i32 x.ay, .int .i32 x.m, .int .i32 x.o, .int .i32 x.px, .int .i32 x.py, .int .i32 x.vx, .int .i32 x.vy], .int .u8 (N : Int)] w fun e w' => e = .returned (.bool true) ∧ Kep w.heap.size w w' := by
  go_enter Try.func7, Try.ntmps7
  go_wp2_with (first
    | ((with_reducible refine (AW.out _).mono ?_); rintro e w1 ⟨rfl, g1⟩
       first
         | (replace gg := kep_next gg g1)
         | (have b0 := Kep.all g1 (a := ⟨w.heap.size, 0, none⟩) (v := .int .u32 x.k) (by (repeat (first | rw [World.cell?_drew] | rw [World.cell?_alloc_past _ _ _ (by first | (simp; done) | (simp; omega))])); rw [World.cell?_alloc_at _ _ _ _ (by simp)]; rfl)
            have b1 := Kep.all g1 (a := ⟨w.heap.size, 1, none⟩) (v := .int .i32 x.r) (by (repeat (first | rw [World.cell?_drew] | rw [World.cell?_alloc_past _ _ _ (by first | (simp; done) | (simp; omega))])); rw [World.cell?_alloc_at _ _ _ _ (by simp)]; rfl)
            have b2 := Kep.all g1 (a := ⟨w.heap.size, 2, none⟩) (v := .int .i32 x.ax) (by (repeat (first | rw [World.cell?_drew] | rw [World.cell?_alloc_past _ _ _ (by first | (simp; done) | (simp; omega))])); rw [World.cell?_alloc_at _ _ _ _ (by simp)]; rfl)
            have b3 := Kep.all g1 (a := ⟨w.heap.size, 3, none⟩) (v := .int .i32 x.ay) (by (repeat (first | rw [World.cell?_drew] | rw [World.cell?_alloc_past _ _ _ (by first | (simp; done) | (simp; omega))])); rw [World.cell?_alloc_at _ _ _ _ (by simp)]; rfl)
            have b4 := Kep.all g1 (a := ⟨w.heap.size, 4, none⟩) (v := .int .i32 x.m) (by (repeat (first | rw [World.cell?_drew] | rw [World.cell?_alloc_past _ _ _ (by first | (simp; done) | (simp; omega))])); rw [World.cell?_alloc_at _ _ _ _ (by simp)]; rfl)
            have b5 := Kep.all g1 (a := ⟨w.heap.size, 5, none⟩) (v := .int .i32 x.o) (by (repeat (first | rw [World.cell?_drew] | rw [World.cell?_alloc_past _ _ _ (by first | (simp; done) | (simp; omega))])); rw [World.cell?_alloc_at _ _ _ _ (by simp)]; rfl)
            have b6 := Kep.all g1 (a := ⟨w.heap.size, 6, none⟩) (v := .int .i32 x.px) (by (repeat (first | rw [World.cell?_drew] | rw [World.cell?_alloc_past _ _ _ (by first | (simp; done) | (simp; omega))])); rw [World.cell?_alloc_at _ _ _ _ (by simp)]; rfl)
            have b7 := Kep.all g1 (a := ⟨w.heap.size, 7, none⟩) (v := .int .i32 x.py) (by (repeat (first | rw [World.cell?_drew] | rw [World.cell?_alloc_past _ _ _ (by first | (simp; done) | (simp; omega))])); rw [World.cell?_alloc_at _ _ _ _ (by simp)]; rfl)
            have b8 := Kep.all g1 (a := ⟨w.heap.size, 8, none⟩) (v := .int .i32 x.vx) (by (repeat (first | rw [World.cell?_drew] | rw [World.cell?_alloc_past _ _ _ (by first | (simp; done) | (simp; omega))])); rw [World.cell?_alloc_at _ _ _ _ (by simp)]; rfl)
            have b9 := Kep.all g1 (a := ⟨w.heap.size, 9, none⟩) (v := .int .i32 x.vy) (by (repeat (first | rw [World.cell?_drew] | rw [World.cell?_alloc_past _ _ _ (by first | (simp; done) | (simp; omega))])); rw [World.cell?_alloc_at _ _ _ _ (by simp)]; rfl)
            have gg := kep_next (kep_more (Kep.refl _ _) _) g1
            have zb_w1 : w.heap.size < w1.heap.size := World.block_lt_of_cell? _ _ b0))
    | ((with_reducible refine (CX.out _).mono ?_); rintro e w2 ⟨rfl, g2⟩
       replace b0 := Kep.all g2 (a := ⟨w.heap.size, 0, none⟩) (v := .int .u32 x.k) b0
       replace b1 := Kep.all g2 (a := ⟨w.heap.size, 1, none⟩) (v := .int .i32 x.r) b1
       replace b2 := Kep.all g2 (a := ⟨w.heap.size, 2, none⟩) (v := .int .i32 x.ax) b2
       replace b3 := Kep.all g2 (a := ⟨w.heap.size, 3, none⟩) (v := .int .i32 x.ay) b3
       replace b4 := Kep.all g2 (a := ⟨w.heap.size, 4, none⟩) (v := .int .i32 x.m) b4
       replace b5 := Kep.all g2 (a := ⟨w.heap.size, 5, none⟩) (v := .int .i32 x.o) b5
       replace b6 := Kep.all g2 (a := ⟨w.heap.size, 6, none⟩) (v := .int .i32 x.px) b6
       replace b7 := Kep.all g2 (a := ⟨w.heap.size, 7, none⟩) (v := .int .i32 x.py) b7
       replace b8 := Kep.all g2 (a := ⟨w.heap.size, 8, none⟩) (v := .int .i32 x.vx) b8
       replace b9 := Kep.all g2 (a := ⟨w.heap.size, 9, none⟩) (v := .int .i32 x.vy) b9
       replace gg := kep_next gg g2
       have zb_w2 : w.heap.size < w2.heap.size := World.block_lt_of_cell? _ _ b0))
  go_ret
  exact ⟨rfl, gg⟩
set_option maxRecDepth 100000 in
set_option maxHeartbeats 2000000 in
theorem yfl_sta (AW : Hid YAwake) (x : Bd) (N : Nat) (CX : Hid (YCk x 0)) (h0 : (x.m == 0) = true) (w : World) : Calls Try.prog 7 #[.agg #[.int .u32 x.k, .int .i32 x.r, .int .i32 x.ax, .int .i32 x.ay, .int .i32 x.m, .int .i32 x.o, .int .i32 x.px, .int .i32 x.py, .int .i32 x.vx, .int .i32 x.vy], .int .u8 (N : Int)] w fun e w' => e = .returned (.bool true) ∧ Kep w.heap.size w w' := by
  go_enter Try.func7, Try.ntmps7
  go_wp2_with (first
    | ((with_reducible refine (AW.out _).mono ?_); rintro e w1 ⟨rfl, g1⟩
       first
         | (replace gg := kep_next gg g1)
         | (have b0 := Kep.all g1 (a := ⟨w.heap.size, 0, none⟩) (v := .int .u32 x.k) (by (repeat (first | rw [World.cell?_drew] | rw [World.cell?_alloc_past _ _ _ (by first | (simp; done) | (simp; omega))])); rw [World.cell?_alloc_at _ _ _ _ (by simp)]; rfl)
            have b1 := Kep.all g1 (a := ⟨w.heap.size, 1, none⟩) (v := .int .i32 x.r) (by (repeat (first | rw [World.cell?_drew] | rw [World.cell?_alloc_past _ _ _ (by first | (simp; done) | (simp; omega))])); rw [World.cell?_alloc_at _ _ _ _ (by simp)]; rfl)
            have b2 := Kep.all g1 (a := ⟨w.heap.size, 2, none⟩) (v := .int .i32 x.ax) (by (repeat (first | rw [World.cell?_drew] | rw [World.cell?_alloc_past _ _ _ (by first | (simp; done) | (simp; omega))])); rw [World.cell?_alloc_at _ _ _ _ (by simp)]; rfl)
            have b3 := Kep.all g1 (a := ⟨w.heap.size, 3, none⟩) (v := .int .i32 x.ay) (by (repeat (first | rw [World.cell?_drew] | rw [World.cell?_alloc_past _ _ _ (by first | (simp; done) | (simp; omega))])); rw [World.cell?_alloc_at _ _ _ _ (by simp)]; rfl)
            have b4 := Kep.all g1 (a := ⟨w.heap.size, 4, none⟩) (v := .int .i32 x.m) (by (repeat (first | rw [World.cell?_drew] | rw [World.cell?_alloc_past _ _ _ (by first | (simp; done) | (simp; omega))])); rw [World.cell?_alloc_at _ _ _ _ (by simp)]; rfl)
            have b5 := Kep.all g1 (a := ⟨w.heap.size, 5, none⟩) (v := .int .i32 x.o) (by (repeat (first | rw [World.cell?_drew] | rw [World.cell?_alloc_past _ _ _ (by first | (simp; done) | (simp; omega))])); rw [World.cell?_alloc_at _ _ _ _ (by simp)]; rfl)
            have b6 := Kep.all g1 (a := ⟨w.heap.size, 6, none⟩) (v := .int .i32 x.px) (by (repeat (first | rw [World.cell?_drew] | rw [World.cell?_alloc_past _ _ _ (by first | (simp; done) | (simp; omega))])); rw [World.cell?_alloc_at _ _ _ _ (by simp)]; rfl)
            have b7 := Kep.all g1 (a := ⟨w.heap.size, 7, none⟩) (v := .int .i32 x.py) (by (repeat (first | rw [World.cell?_drew] | rw [World.cell?_alloc_past _ _ _ (by first | (simp; done) | (simp; omega))])); rw [World.cell?_alloc_at _ _ _ _ (by simp)]; rfl)
            have b8 := Kep.all g1 (a := ⟨w.heap.size, 8, none⟩) (v := .int .i32 x.vx) (by (repeat (first | rw [World.cell?_drew] | rw [World.cell?_alloc_past _ _ _ (by first | (simp; done) | (simp; omega))])); rw [World.cell?_alloc_at _ _ _ _ (by simp)]; rfl)
            have b9 := Kep.all g1 (a := ⟨w.heap.size, 9, none⟩) (v := .int .i32 x.vy) (by (repeat (first | rw [World.cell?_drew] | rw [World.cell?_alloc_past _ _ _ (by first | (simp; done) | (simp; omega))])); rw [World.cell?_alloc_at _ _ _ _ (by simp)]; rfl)
            have gg := kep_next (kep_more (Kep.refl _ _) _) g1
            have zb_w1 : w.heap.size < w1.heap.size := World.block_lt_of_cell? _ _ b0))
    | ((with_reducible refine (CX.out _).mono ?_); rintro e w2 ⟨rfl, g2⟩
       replace b0 := Kep.all g2 (a := ⟨w.heap.size, 0, none⟩) (v := .int .u32 x.k) b0
       replace b1 := Kep.all g2 (a := ⟨w.heap.size, 1, none⟩) (v := .int .i32 x.r) b1
       replace b2 := Kep.all g2 (a := ⟨w.heap.size, 2, none⟩) (v := .int .i32 x.ax) b2
       replace b3 := Kep.all g2 (a := ⟨w.heap.size, 3, none⟩) (v := .int .i32 x.ay) b3
       replace b4 := Kep.all g2 (a := ⟨w.heap.size, 4, none⟩) (v := .int .i32 x.m) b4
       replace b5 := Kep.all g2 (a := ⟨w.heap.size, 5, none⟩) (v := .int .i32 x.o) b5
       replace b6 := Kep.all g2 (a := ⟨w.heap.size, 6, none⟩) (v := .int .i32 x.px) b6
       replace b7 := Kep.all g2 (a := ⟨w.heap.size, 7, none⟩) (v := .int .i32 x.py) b7
       replace b8 := Kep.all g2 (a := ⟨w.heap.size, 8, none⟩) (v := .int .i32 x.vx) b8
       replace b9 := Kep.all g2 (a := ⟨w.heap.size, 9, none⟩) (v := .int .i32 x.vy) b9
       replace gg := kep_next gg g2
       have zb_w2 : w.heap.size < w2.heap.size := World.block_lt_of_cell? _ _ b0))
  go_ret
  exact ⟨rfl, gg⟩
set_option maxRecDepth 100000 in
set_option maxHeartbeats 4000000 in
theorem yfl_main (O : YOps) (AW : Hid YAwake) (x : Bd) (N : Nat) (hN : N < 256) (hok : okI x) (hm : 0 < x.m) (CX : Hid (YCk x 0)) (w : World) : Calls Try.prog 7 #[.agg #[.int .u32 x.k, .int .i32 x.r, .int .i32 x.ax, .int .i32 x.ay, .int .i32 x.m, .int .i32 x.o, .int .i32 x.px, .int .i32 x.py, .int .i32 x.vx, .int .i32 x.vy], .int .u8 (N : Int)] w fun e w' => e = .returned (.bool true) ∧ Kep w.heap.size w w' := by
  have hv := vb_of hok
  have GR : Hid (∀ (k : Nat) v w, Lst w v [velB x x.vx (falY x k)] → Calls Try.prog 11 #[v] w fun e w' => ∃ v' z, e = .returned (.tuple #[v', .bool z]) ∧ Lst w' v' [velB x x.vx (falY x (k + 1))] ∧ Kep w.heap.size w w') := Lib.hid fun k v w h =>
    (O.grv v [velB x x.vx (falY x k)] w h (by simp) (fun y hy => by rw [List.mem_singleton.1 hy]; have := chk_six hok; exact ok_vel hok this.2.2.2.2.2.1 (fal_bd hv k))).mono fun e w' ⟨v', h1, h2, h3⟩ => ⟨v', _, h1, by rw [← fal_next hv hm k]; exact h2, h3⟩
  have h0 : (x.m == 0) = false := beq_eq_false_iff_ne.2 (by omega)
  have HF0 := Lib.hid (fal_zero hv)
  have fb := fal_bd hv N
  obtain ⟨y, hy⟩ : ∃ y, y = falY x N := ⟨_, rfl⟩
  have x2 := hv.vy0; have x3 := hv.vy1
  have f1 : IntKind.i64.wrap (N : Int) = (N : Int) := by rw [IntKind.wrap_i64]; omega
  have f2 : IntKind.i64.wrap y = y := by rw [IntKind.wrap_i64]; omega
  have f3 : IntKind.i64.wrap x.vy = x.vy := by rw [IntKind.wrap_i64]; omega
  obtain ⟨q, hq⟩ : ∃ q : Int, q = 1024 * (N : Int) := ⟨_, rfl⟩
  obtain ⟨r, hr⟩ : ∃ r : Int, r = x.vy - q := ⟨_, rfl⟩
  have f4 : IntKind.i64.wrap (1024 * (N : Int)) = q := by rw [IntKind.wrap_i64]; omega
  have f5 : wrap64 (1024 * (N : Int)) = q := by unfold wrap64; omega
  have f6 : IntKind.i64.wrap (x.vy - q) = r := by rw [IntKind.wrap_i64]; omega
  have f7 : wrap64 (x.vy - q) = r := by unfold wrap64; omega
  have f8 : max r (-16777216) = y := by rw [hy, hr, hq]; rfl
  have HY := Lib.hid hy
  clear hy hq hr fb x2 x3 hok hm hv O
  go_enter Try.func7, Try.ntmps7
  go_upto_region 4 with (first
    | ((with_reducible refine (AW.out _).mono ?_); rintro e w1 ⟨rfl, g1⟩
       have b0 := Kep.all g1 (a := ⟨w.heap.size, 0, none⟩) (v := .int .u32 x.k) (by (repeat (first | rw [World.cell?_drew] | rw [World.cell?_alloc_past _ _ _ (by first | (simp; done) | (simp; omega))])); rw [World.cell?_alloc_at _ _ _ _ (by simp)]; rfl)
       have b1 := Kep.all g1 (a := ⟨w.heap.size, 1, none⟩) (v := .int .i32 x.r) (by (repeat (first | rw [World.cell?_drew] | rw [World.cell?_alloc_past _ _ _ (by first | (simp; done) | (simp; omega))])); rw [World.cell?_alloc_at _ _ _ _ (by simp)]; rfl)
       have b2 := Kep.all g1 (a := ⟨w.heap.size, 2, none⟩) (v := .int .i32 x.ax) (by (repeat (first | rw [World.cell?_drew] | rw [World.cell?_alloc_past _ _ _ (by first | (simp; done) | (simp; omega))])); rw [World.cell?_alloc_at _ _ _ _ (by simp)]; rfl)
       have b3 := Kep.all g1 (a := ⟨w.heap.size, 3, none⟩) (v := .int .i32 x.ay) (by (repeat (first | rw [World.cell?_drew] | rw [World.cell?_alloc_past _ _ _ (by first | (simp; done) | (simp; omega))])); rw [World.cell?_alloc_at _ _ _ _ (by simp)]; rfl)
       have b4 := Kep.all g1 (a := ⟨w.heap.size, 4, none⟩) (v := .int .i32 x.m) (by (repeat (first | rw [World.cell?_drew] | rw [World.cell?_alloc_past _ _ _ (by first | (simp; done) | (simp; omega))])); rw [World.cell?_alloc_at _ _ _ _ (by simp)]; rfl)
       have b5 := Kep.all g1 (a := ⟨w.heap.size, 5, none⟩) (v := .int .i32 x.o) (by (repeat (first | rw [World.cell?_drew] | rw [World.cell?_alloc_past _ _ _ (by first | (simp; done) | (simp; omega))])); rw [World.cell?_alloc_at _ _ _ _ (by simp)]; rfl)
       have b6 := Kep.all g1 (a := ⟨w.heap.size, 6, none⟩) (v := .int .i32 x.px) (by (repeat (first | rw [World.cell?_drew] | rw [World.cell?_alloc_past _ _ _ (by first | (simp; done) | (simp; omega))])); rw [World.cell?_alloc_at _ _ _ _ (by simp)]; rfl)
       have b7 := Kep.all g1 (a := ⟨w.heap.size, 7, none⟩) (v := .int .i32 x.py) (by (repeat (first | rw [World.cell?_drew] | rw [World.cell?_alloc_past _ _ _ (by first | (simp; done) | (simp; omega))])); rw [World.cell?_alloc_at _ _ _ _ (by simp)]; rfl)
       have b8 := Kep.all g1 (a := ⟨w.heap.size, 8, none⟩) (v := .int .i32 x.vx) (by (repeat (first | rw [World.cell?_drew] | rw [World.cell?_alloc_past _ _ _ (by first | (simp; done) | (simp; omega))])); rw [World.cell?_alloc_at _ _ _ _ (by simp)]; rfl)
       have b9 := Kep.all g1 (a := ⟨w.heap.size, 9, none⟩) (v := .int .i32 x.vy) (by (repeat (first | rw [World.cell?_drew] | rw [World.cell?_alloc_past _ _ _ (by first | (simp; done) | (simp; omega))])); rw [World.cell?_alloc_at _ _ _ _ (by simp)]; rfl)
       have gg := kep_next (kep_more (Kep.refl _ _) _) g1
       have zb_w1 : w.heap.size < w1.heap.size := World.block_lt_of_cell? _ _ b0)
    | ((with_reducible refine (CX.out _).mono ?_); rintro e w2 ⟨rfl, g2⟩
       replace b0 := Kep.all g2 (a := ⟨w.heap.size, 0, none⟩) (v := .int .u32 x.k) b0
       replace b1 := Kep.all g2 (a := ⟨w.heap.size, 1, none⟩) (v := .int .i32 x.r) b1
       replace b2 := Kep.all g2 (a := ⟨w.heap.size, 2, none⟩) (v := .int .i32 x.ax) b2
       replace b3 := Kep.all g2 (a := ⟨w.heap.size, 3, none⟩) (v := .int .i32 x.ay) b3
       replace b4 := Kep.all g2 (a := ⟨w.heap.size, 4, none⟩) (v := .int .i32 x.m) b4
       replace b5 := Kep.all g2 (a := ⟨w.heap.size, 5, none⟩) (v := .int .i32 x.o) b5
       replace b6 := Kep.all g2 (a := ⟨w.heap.size, 6, none⟩) (v := .int .i32 x.px) b6
       replace b7 := Kep.all g2 (a := ⟨w.heap.size, 7, none⟩) (v := .int .i32 x.py) b7
       replace b8 := Kep.all g2 (a := ⟨w.heap.size, 8, none⟩) (v := .int .i32 x.vx) b8
       replace b9 := Kep.all g2 (a := ⟨w.heap.size, 9, none⟩) (v := .int .i32 x.vy) b9
       replace gg := kep_next gg g2
       have zb_w2 : w.heap.size < w2.heap.size := World.block_lt_of_cell? _ _ b0))
  generalize hW : World.alloc w2 _ = W3
  have k3 : Kep w2.heap.size w2 W3 := by rw [← hW]; exact kep_more (Kep.refl _ _) _
  have Zl : ZC W3 w2.heap.size (vals x) := by rw [← hW]; exact zc_new' _ _ _ rfl
  replace b8 := k3.all b8
  replace b9 := k3.all b9
  replace gg := kep_next gg k3
  have HL0 := Lib.hid (lst_one Zl)
  have HB8 := Lib.hid b8
  have HB9 := Lib.hid b9
  have G0 := Lib.hid gg
  clear hW k3 Zl gg b0 b1 b2 b3 b4 b5 b6 b7 b8 b9
  go_wp2_with fail
  go_loopw [5, 6] (fun v i wr => ∃ k : Nat, k ≤ N ∧ i = .int .i64 k ∧ Hid (Lst wr v [velB x x.vx (falY x k)] ∧ Kep W3.heap.size W3 wr)) (fun _ i _ => N - (RowKit.intOf i).toNat)
  case atStart => exact ⟨0, by omega, rfl, Lib.hid ⟨by rw [HF0.out]; exact HL0.out, Kep.refl _ _⟩⟩
  case round =>
    obtain ⟨k, hk, rfl, HP⟩ := hrel
    by_cases hlt : k < N
    · have l1 := HP.out.1
      have gi := HP.out.2
      clear HP f2 f3 f4 f5 f6 f7 f8
      go_wp2_with ((with_reducible refine (GR.out k _ _ l1).mono ?_); rintro e w4 ⟨v4, z4, rfl, l4, g4⟩)
      have HM := Lib.hid (And.intro l4 (kep_next gi g4))
      clear l4 g4 gi l1
      go_roundw
      case rel => exact ⟨k + 1, by omega, by go_num, HM⟩
      case measure => simp [RowKit.intOf]; omega
    · obtain rfl : k = N := by omega
      have gi := HP.out.2
      have l1 := HP.out.1
      obtain ⟨bl, cl, rfl⟩ := l1.shape
      obtain ⟨gl, off, rfl, qx⟩ := l1.at_ (k := 0) rfl
      have s8 : wr.cell? ⟨gl, off + 8, none⟩ = some (.int .i32 x.vx) := by have := qx 8 (by decide); rw [Nat.zero_mul, Nat.add_zero] at this; exact this
      have s9 : wr.cell? ⟨gl, off + 9, none⟩ = some (.int .i32 y) := by have := qx 9 (by decide); rw [Nat.zero_mul, Nat.add_zero] at this; rw [HY.out]; exact this
      have b8 := gi.all HB8.out
      have b9 := gi.all HB9.out
      have gg := kep_next G0.out gi
      clear HP gi l1 qx
      rw [show ([velB x x.vx (falY x k)].length : Nat) = 1 from rfl]
      go_wp2_with fail
      go_quiet (fail)
      go_wp2_with fail
      go_ret
      exact ⟨rfl, kep_drewN gg _⟩
/-- The law IntegrateFalls. -/
theorem yfl_law (O : YOps) (AW : YAwake) (x : Bd) (n : Int) (hn : 0 ≤ n ∧ n < 256) (w : World) : Calls Try.prog 7 #[.agg #[.int .u32 x.k, .int .i32 x.r, .int .i32 x.ax, .int .i32 x.ay, .int .i32 x.m, .int .i32 x.o, .int .i32 x.px, .int .i32 x.py, .int .i32 x.vx, .int .i32 x.vy], .int .u8 n] w fun e w' => e = .returned (.bool true) ∧ Kep w.heap.size w w' := by
  obtain ⟨N, rfl⟩ := Int.eq_ofNat_of_zero_le hn.1
  by_cases cx : okI x
  · have kx := yck x
    rw [show chk x.r x.ax x.ay x.m x.o x.px x.py x.vx x.vy = 0 from cx] at kx
    by_cases hm : 0 < x.m
    · exact yfl_main O (Lib.hid AW) x N (by omega) cx hm (Lib.hid kx) w
    · exact yfl_sta (Lib.hid AW) x N (Lib.hid kx) (beq_iff_eq.2 (by have := (vb_of cx).m0; omega)) w
  · exact yfl_bad (Lib.hid AW) x N _ (Lib.hid (yck x)) (bne_iff_ne.2 cx) w
end Go.Proofs.Ytlabeelbbkbkaaa
