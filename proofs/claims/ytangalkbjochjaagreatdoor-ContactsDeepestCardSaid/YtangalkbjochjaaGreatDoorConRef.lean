/-
  Package contact: its slow reference.
-/
import Derived.Test.YtangalkbjochjaaGreatDoorJ19SegRef2
import Derived.Test.YtangalkbjochjaaGreatDoorJ02Seq
import Derived.Deep.DeepCutAuto
import Derived.Deep.QuietTactic
import Derived.BigQuiet
namespace Go.Proofs.YtangalkbjochjaaGreatDoor
open Go.RowKit Go.Lib

abbrev KRc (x y : Bd) (a b c d : Int) : Prop := ∀ w, Calls Tryz.prog 25 #[.agg #[.int .u32 x.k, .int .i32 x.r, .int .i32 x.ax, .int .i32 x.ay, .int .i32 x.m, .int .i32 x.o, .int .i32 x.px, .int .i32 x.py, .int .i32 x.vx, .int .i32 x.vy], .agg #[.int .u32 y.k, .int .i32 y.r, .int .i32 y.ax, .int .i32 y.ay, .int .i32 y.m, .int .i32 y.o, .int .i32 y.px, .int .i32 y.py, .int .i32 y.vx, .int .i32 y.vy]] w fun e w' => e = .returned (.agg #[.int .i32 a, .int .i32 b, .int .i32 c, .int .i32 d]) ∧ Kep w.heap.size w w'
abbrev KRo (x y : Bd) (v : Ct) (z : Bool) : Prop := ∀ w, Calls Tryz.prog 18 #[.agg #[.int .u32 x.k, .int .i32 x.r, .int .i32 x.ax, .int .i32 x.ay, .int .i32 x.m, .int .i32 x.o, .int .i32 x.px, .int .i32 x.py, .int .i32 x.vx, .int .i32 x.vy], .agg #[.int .u32 y.k, .int .i32 y.r, .int .i32 y.ax, .int .i32 y.ay, .int .i32 y.m, .int .i32 y.o, .int .i32 y.px, .int .i32 y.py, .int .i32 y.vx, .int .i32 y.vy]] w fun e w' => e = .returned (.tuple #[.agg #[.int .u32 v.lo, .int .u32 v.hi, .int .i32 v.nx, .int .i32 v.ny, .int .i32 v.dp], .bool z]) ∧ Kep w.heap.size w w'
theorem wrp {n q : Int} (h : n = q) (h1 : -2147483648 ≤ n) (h2 : n < 2147483648) : wrap32 n = q := by
  rw [← h]
  unfold wrap32
  omega
set_option maxRecDepth 100000 in
set_option maxHeartbeats 2000000 in
theorem krc {x y : Bd} {a b c d t : Int} (hx : okC x) (hy : okC y) (hc : cc x y = ⟨a, b, c, d, t⟩) : KRc x y a b c d := fun w => by
  have h1 := okC_lim hx
  have h2 := okC_lim hy
  have hs := cc_sg hx hy
  have C5 := rch hs
  obtain ⟨e0, he0⟩ : ∃ z, z = x.px - x.ax := ⟨_, rfl⟩
  obtain ⟨e1, he1⟩ : ∃ z, z = x.py - x.ay := ⟨_, rfl⟩
  obtain ⟨e2, he2⟩ : ∃ z, z = x.px + x.ax := ⟨_, rfl⟩
  obtain ⟨e3, he3⟩ : ∃ z, z = x.py + x.ay := ⟨_, rfl⟩
  obtain ⟨e4, he4⟩ : ∃ z, z = y.px - y.ax := ⟨_, rfl⟩
  obtain ⟨e5, he5⟩ : ∃ z, z = y.py - y.ay := ⟨_, rfl⟩
  obtain ⟨e6, he6⟩ : ∃ z, z = y.px + y.ax := ⟨_, rfl⟩
  obtain ⟨e7, he7⟩ : ∃ z, z = y.py + y.ay := ⟨_, rfl⟩
  have C1 : Hid (∀ w, Calls Tryz.prog 39 #[.agg #[.int .u32 x.k, .int .i32 x.r, .int .i32 x.ax, .int .i32 x.ay, .int .i32 x.m, .int .i32 x.o, .int .i32 x.px, .int .i32 x.py, .int .i32 x.vx, .int .i32 x.vy]] w fun e w' => e = .returned (.agg #[.int .i32 e0, .int .i32 e1]) ∧ Kep w.heap.size w w') := Lib.hid (fun w => kep_calls (fst x.k x.r x.ax x.ay x.m x.o x.px x.py x.vx x.vy e0 e1 (wrp he0.symm (by omega) (by omega)) (wrp he1.symm (by omega) (by omega)) w))
  have C2 : Hid (∀ w, Calls Tryz.prog 40 #[.agg #[.int .u32 x.k, .int .i32 x.r, .int .i32 x.ax, .int .i32 x.ay, .int .i32 x.m, .int .i32 x.o, .int .i32 x.px, .int .i32 x.py, .int .i32 x.vx, .int .i32 x.vy]] w fun e w' => e = .returned (.agg #[.int .i32 e2, .int .i32 e3]) ∧ Kep w.heap.size w w') := Lib.hid (fun w => kep_calls (snd x.k x.r x.ax x.ay x.m x.o x.px x.py x.vx x.vy e2 e3 (wrp he2.symm (by omega) (by omega)) (wrp he3.symm (by omega) (by omega)) w))
  have C3 : Hid (∀ w, Calls Tryz.prog 39 #[.agg #[.int .u32 y.k, .int .i32 y.r, .int .i32 y.ax, .int .i32 y.ay, .int .i32 y.m, .int .i32 y.o, .int .i32 y.px, .int .i32 y.py, .int .i32 y.vx, .int .i32 y.vy]] w fun e w' => e = .returned (.agg #[.int .i32 e4, .int .i32 e5]) ∧ Kep w.heap.size w w') := Lib.hid (fun w => kep_calls (fst y.k y.r y.ax y.ay y.m y.o y.px y.py y.vx y.vy e4 e5 (wrp he4.symm (by omega) (by omega)) (wrp he5.symm (by omega) (by omega)) w))
  have C4 : Hid (∀ w, Calls Tryz.prog 40 #[.agg #[.int .u32 y.k, .int .i32 y.r, .int .i32 y.ax, .int .i32 y.ay, .int .i32 y.m, .int .i32 y.o, .int .i32 y.px, .int .i32 y.py, .int .i32 y.vx, .int .i32 y.vy]] w fun e w' => e = .returned (.agg #[.int .i32 e6, .int .i32 e7]) ∧ Kep w.heap.size w w') := Lib.hid (fun w => kep_calls (snd y.k y.r y.ax y.ay y.m y.o y.px y.py y.vx y.vy e6 e7 (wrp he6.symm (by omega) (by omega)) (wrp he7.symm (by omega) (by omega)) w))
  unfold cc at hc
  rw [hc] at C5
  rw [← he0, ← he1, ← he2, ← he3, ← he4, ← he5, ← he6, ← he7] at C5
  replace C5 : Hid (∀ w, Calls Tryz.prog 38 #[.agg #[.int .i32 e0, .int .i32 e1], .agg #[.int .i32 e2, .int .i32 e3], .agg #[.int .i32 e4, .int .i32 e5], .agg #[.int .i32 e6, .int .i32 e7]] w fun e w' => e = .returned (.agg #[.int .i32 a, .int .i32 b, .int .i32 c, .int .i32 d]) ∧ Kep w.heap.size w w') := Lib.hid C5
  clear h1 h2 hs hc he0 he1 he2 he3 he4 he5 he6 he7 hx hy
  go_enter Tryz.func25, Tryz.ntmps25
  go_wp2_with fail
  generalize hW : World.alloc (World.alloc (World.alloc w _) _) _ = W1
  have x0 : W1.cell? ⟨w.heap.size, 0, none⟩ = some (.int .u32 x.k) := by
    rw [← hW]
    (repeat (first | rw [World.cell?_drew] | rw [World.cell?_alloc_past _ _ _ (by first | (simp; done) | (simp; omega))])); rw [World.cell?_alloc_at _ _ _ _ (by simp)]; rfl
  have x1 : W1.cell? ⟨w.heap.size, 1, none⟩ = some (.int .i32 x.r) := by
    rw [← hW]
    (repeat (first | rw [World.cell?_drew] | rw [World.cell?_alloc_past _ _ _ (by first | (simp; done) | (simp; omega))])); rw [World.cell?_alloc_at _ _ _ _ (by simp)]; rfl
  have x2 : W1.cell? ⟨w.heap.size, 2, none⟩ = some (.int .i32 x.ax) := by
    rw [← hW]
    (repeat (first | rw [World.cell?_drew] | rw [World.cell?_alloc_past _ _ _ (by first | (simp; done) | (simp; omega))])); rw [World.cell?_alloc_at _ _ _ _ (by simp)]; rfl
  have x3 : W1.cell? ⟨w.heap.size, 3, none⟩ = some (.int .i32 x.ay) := by
    rw [← hW]
    (repeat (first | rw [World.cell?_drew] | rw [World.cell?_alloc_past _ _ _ (by first | (simp; done) | (simp; omega))])); rw [World.cell?_alloc_at _ _ _ _ (by simp)]; rfl
  have x4 : W1.cell? ⟨w.heap.size, 4, none⟩ = some (.int .i32 x.m) := by
    rw [← hW]
    (repeat (first | rw [World.cell?_drew] | rw [World.cell?_alloc_past _ _ _ (by first | (simp; done) | (simp; omega))])); rw [World.cell?_alloc_at _ _ _ _ (by simp)]; rfl
  have x5 : W1.cell? ⟨w.heap.size, 5, none⟩ = some (.int .i32 x.o) := by
    rw [← hW]
    (repeat (first | rw [World.cell?_drew] | rw [World.cell?_alloc_past _ _ _ (by first | (simp; done) | (simp; omega))])); rw [World.cell?_alloc_at _ _ _ _ (by simp)]; rfl
  have x6 : W1.cell? ⟨w.heap.size, 6, none⟩ = some (.int .i32 x.px) := by
    rw [← hW]
    (repeat (first | rw [World.cell?_drew] | rw [World.cell?_alloc_past _ _ _ (by first | (simp; done) | (simp; omega))])); rw [World.cell?_alloc_at _ _ _ _ (by simp)]; rfl
  have x7 : W1.cell? ⟨w.heap.size, 7, none⟩ = some (.int .i32 x.py) := by
    rw [← hW]
    (repeat (first | rw [World.cell?_drew] | rw [World.cell?_alloc_past _ _ _ (by first | (simp; done) | (simp; omega))])); rw [World.cell?_alloc_at _ _ _ _ (by simp)]; rfl
  have x8 : W1.cell? ⟨w.heap.size, 8, none⟩ = some (.int .i32 x.vx) := by
    rw [← hW]
    (repeat (first | rw [World.cell?_drew] | rw [World.cell?_alloc_past _ _ _ (by first | (simp; done) | (simp; omega))])); rw [World.cell?_alloc_at _ _ _ _ (by simp)]; rfl
  have x9 : W1.cell? ⟨w.heap.size, 9, none⟩ = some (.int .i32 x.vy) := by
    rw [← hW]
    (repeat (first | rw [World.cell?_drew] | rw [World.cell?_alloc_past _ _ _ (by first | (simp; done) | (simp; omega))])); rw [World.cell?_alloc_at _ _ _ _ (by simp)]; rfl
  have y0 : W1.cell? ⟨w.heap.size + 1, 0, none⟩ = some (.int .u32 y.k) := by
    rw [← hW]
    (repeat (first | rw [World.cell?_drew] | rw [World.cell?_alloc_past _ _ _ (by first | (simp; done) | (simp; omega))])); rw [World.cell?_alloc_at _ _ _ _ (by simp)]; rfl
  have y1 : W1.cell? ⟨w.heap.size + 1, 1, none⟩ = some (.int .i32 y.r) := by
    rw [← hW]
    (repeat (first | rw [World.cell?_drew] | rw [World.cell?_alloc_past _ _ _ (by first | (simp; done) | (simp; omega))])); rw [World.cell?_alloc_at _ _ _ _ (by simp)]; rfl
  have y2 : W1.cell? ⟨w.heap.size + 1, 2, none⟩ = some (.int .i32 y.ax) := by
    rw [← hW]
    (repeat (first | rw [World.cell?_drew] | rw [World.cell?_alloc_past _ _ _ (by first | (simp; done) | (simp; omega))])); rw [World.cell?_alloc_at _ _ _ _ (by simp)]; rfl
  have y3 : W1.cell? ⟨w.heap.size + 1, 3, none⟩ = some (.int .i32 y.ay) := by
    rw [← hW]
    (repeat (first | rw [World.cell?_drew] | rw [World.cell?_alloc_past _ _ _ (by first | (simp; done) | (simp; omega))])); rw [World.cell?_alloc_at _ _ _ _ (by simp)]; rfl
  have y4 : W1.cell? ⟨w.heap.size + 1, 4, none⟩ = some (.int .i32 y.m) := by
    rw [← hW]
    (repeat (first | rw [World.cell?_drew] | rw [World.cell?_alloc_past _ _ _ (by first | (simp; done) | (simp; omega))])); rw [World.cell?_alloc_at _ _ _ _ (by simp)]; rfl
  have y5 : W1.cell? ⟨w.heap.size + 1, 5, none⟩ = some (.int .i32 y.o) := by
    rw [← hW]
    (repeat (first | rw [World.cell?_drew] | rw [World.cell?_alloc_past _ _ _ (by first | (simp; done) | (simp; omega))])); rw [World.cell?_alloc_at _ _ _ _ (by simp)]; rfl
  have y6 : W1.cell? ⟨w.heap.size + 1, 6, none⟩ = some (.int .i32 y.px) := by
    rw [← hW]
    (repeat (first | rw [World.cell?_drew] | rw [World.cell?_alloc_past _ _ _ (by first | (simp; done) | (simp; omega))])); rw [World.cell?_alloc_at _ _ _ _ (by simp)]; rfl
  have y7 : W1.cell? ⟨w.heap.size + 1, 7, none⟩ = some (.int .i32 y.py) := by
    rw [← hW]
    (repeat (first | rw [World.cell?_drew] | rw [World.cell?_alloc_past _ _ _ (by first | (simp; done) | (simp; omega))])); rw [World.cell?_alloc_at _ _ _ _ (by simp)]; rfl
  have y8 : W1.cell? ⟨w.heap.size + 1, 8, none⟩ = some (.int .i32 y.vx) := by
    rw [← hW]
    (repeat (first | rw [World.cell?_drew] | rw [World.cell?_alloc_past _ _ _ (by first | (simp; done) | (simp; omega))])); rw [World.cell?_alloc_at _ _ _ _ (by simp)]; rfl
  have y9 : W1.cell? ⟨w.heap.size + 1, 9, none⟩ = some (.int .i32 y.vy) := by
    rw [← hW]
    (repeat (first | rw [World.cell?_drew] | rw [World.cell?_alloc_past _ _ _ (by first | (simp; done) | (simp; omega))])); rw [World.cell?_alloc_at _ _ _ _ (by simp)]; rfl
  have sr0 : (W1.cell? ⟨w.heap.size + 1 + 1, 0, none⟩).isSome = true := by
    rw [← hW]
    (repeat (first | rw [World.cell?_drew] | rw [World.cell?_alloc_past _ _ _ (by first | (simp; done) | (simp; omega))])); rw [World.cell?_alloc_at _ _ _ _ (by simp)]; rfl
  have sr1 : (W1.cell? ⟨w.heap.size + 1 + 1, 1, none⟩).isSome = true := by
    rw [← hW]
    (repeat (first | rw [World.cell?_drew] | rw [World.cell?_alloc_past _ _ _ (by first | (simp; done) | (simp; omega))])); rw [World.cell?_alloc_at _ _ _ _ (by simp)]; rfl
  have sr2 : (W1.cell? ⟨w.heap.size + 1 + 1, 2, none⟩).isSome = true := by
    rw [← hW]
    (repeat (first | rw [World.cell?_drew] | rw [World.cell?_alloc_past _ _ _ (by first | (simp; done) | (simp; omega))])); rw [World.cell?_alloc_at _ _ _ _ (by simp)]; rfl
  have sr3 : (W1.cell? ⟨w.heap.size + 1 + 1, 3, none⟩).isSome = true := by
    rw [← hW]
    (repeat (first | rw [World.cell?_drew] | rw [World.cell?_alloc_past _ _ _ (by first | (simp; done) | (simp; omega))])); rw [World.cell?_alloc_at _ _ _ _ (by simp)]; rfl
  have fr0 : W1.frozen? ⟨w.heap.size + 1 + 1, 0, none⟩ = false := by
    rw [← hW]
    (repeat (first | rw [World.frozen?_drew] | rw [World.frozen?_alloc_past _ _ _ (by first | (simp; done) | (simp; omega))])); rw [World.frozen?_alloc_at _ _ _ _ (by simp)]
  have fr1 : W1.frozen? ⟨w.heap.size + 1 + 1, 1, none⟩ = false := by
    rw [← hW]
    (repeat (first | rw [World.frozen?_drew] | rw [World.frozen?_alloc_past _ _ _ (by first | (simp; done) | (simp; omega))])); rw [World.frozen?_alloc_at _ _ _ _ (by simp)]
  have fr2 : W1.frozen? ⟨w.heap.size + 1 + 1, 2, none⟩ = false := by
    rw [← hW]
    (repeat (first | rw [World.frozen?_drew] | rw [World.frozen?_alloc_past _ _ _ (by first | (simp; done) | (simp; omega))])); rw [World.frozen?_alloc_at _ _ _ _ (by simp)]
  have fr3 : W1.frozen? ⟨w.heap.size + 1 + 1, 3, none⟩ = false := by
    rw [← hW]
    (repeat (first | rw [World.frozen?_drew] | rw [World.frozen?_alloc_past _ _ _ (by first | (simp; done) | (simp; omega))])); rw [World.frozen?_alloc_at _ _ _ _ (by simp)]
  have gg : Kep w.heap.size w W1 := by rw [← hW]; exact (kep_more (kep_more (kep_more (Kep.refl _ _) _) _) _)
  clear hW
  refine wp_region_noPanic ?_
  refine wp_region_held_drew (S := (fun w' => w'.cell? ⟨w.heap.size, 0, none⟩ = some (.int .u32 x.k) ∧ w'.cell? ⟨w.heap.size, 1, none⟩ = some (.int .i32 x.r) ∧ w'.cell? ⟨w.heap.size, 2, none⟩ = some (.int .i32 x.ax) ∧ w'.cell? ⟨w.heap.size, 3, none⟩ = some (.int .i32 x.ay) ∧ w'.cell? ⟨w.heap.size, 4, none⟩ = some (.int .i32 x.m) ∧ w'.cell? ⟨w.heap.size, 5, none⟩ = some (.int .i32 x.o) ∧ w'.cell? ⟨w.heap.size, 6, none⟩ = some (.int .i32 x.px) ∧ w'.cell? ⟨w.heap.size, 7, none⟩ = some (.int .i32 x.py) ∧ w'.cell? ⟨w.heap.size, 8, none⟩ = some (.int .i32 x.vx) ∧ w'.cell? ⟨w.heap.size, 9, none⟩ = some (.int .i32 x.vy) ∧ w'.cell? ⟨w.heap.size + 1, 0, none⟩ = some (.int .u32 y.k) ∧ w'.cell? ⟨w.heap.size + 1, 1, none⟩ = some (.int .i32 y.r) ∧ w'.cell? ⟨w.heap.size + 1, 2, none⟩ = some (.int .i32 y.ax) ∧ w'.cell? ⟨w.heap.size + 1, 3, none⟩ = some (.int .i32 y.ay) ∧ w'.cell? ⟨w.heap.size + 1, 4, none⟩ = some (.int .i32 y.m) ∧ w'.cell? ⟨w.heap.size + 1, 5, none⟩ = some (.int .i32 y.o) ∧ w'.cell? ⟨w.heap.size + 1, 6, none⟩ = some (.int .i32 y.px) ∧ w'.cell? ⟨w.heap.size + 1, 7, none⟩ = some (.int .i32 y.py) ∧ w'.cell? ⟨w.heap.size + 1, 8, none⟩ = some (.int .i32 y.vx) ∧ w'.cell? ⟨w.heap.size + 1, 9, none⟩ = some (.int .i32 y.vy) ∧ (w'.cell? ⟨w.heap.size + 1 + 1, 0, none⟩).isSome = true ∧ (w'.cell? ⟨w.heap.size + 1 + 1, 1, none⟩).isSome = true ∧ (w'.cell? ⟨w.heap.size + 1 + 1, 2, none⟩).isSome = true ∧ (w'.cell? ⟨w.heap.size + 1 + 1, 3, none⟩).isSome = true ∧ w'.frozen? ⟨w.heap.size + 1 + 1, 0, none⟩ = false ∧ w'.frozen? ⟨w.heap.size + 1 + 1, 1, none⟩ = false ∧ w'.frozen? ⟨w.heap.size + 1 + 1, 2, none⟩ = false ∧ w'.frozen? ⟨w.heap.size + 1 + 1, 3, none⟩ = false ∧ Kep w.heap.size w w')) (by kernel_rfl) (⟨by rw [World.cell?_drew]; exact x0, by rw [World.cell?_drew]; exact x1, by rw [World.cell?_drew]; exact x2, by rw [World.cell?_drew]; exact x3, by rw [World.cell?_drew]; exact x4, by rw [World.cell?_drew]; exact x5, by rw [World.cell?_drew]; exact x6, by rw [World.cell?_drew]; exact x7, by rw [World.cell?_drew]; exact x8, by rw [World.cell?_drew]; exact x9, by rw [World.cell?_drew]; exact y0, by rw [World.cell?_drew]; exact y1, by rw [World.cell?_drew]; exact y2, by rw [World.cell?_drew]; exact y3, by rw [World.cell?_drew]; exact y4, by rw [World.cell?_drew]; exact y5, by rw [World.cell?_drew]; exact y6, by rw [World.cell?_drew]; exact y7, by rw [World.cell?_drew]; exact y8, by rw [World.cell?_drew]; exact y9, by rw [World.cell?_drew]; exact sr0, by rw [World.cell?_drew]; exact sr1, by rw [World.cell?_drew]; exact sr2, by rw [World.cell?_drew]; exact sr3, by rw [World.frozen?_drew]; exact fr0, by rw [World.frozen?_drew]; exact fr1, by rw [World.frozen?_drew]; exact fr2, by rw [World.frozen?_drew]; exact fr3, kep_drew gg⟩) (fun hH => ?_)
  refine rtk 0 (oi := ⟨some 5, .load 46 (.tmp 2), _, _, _, none⟩) (v := ?_) rfl ?_ hH ?_
  rotate_left
  · (intro w hSw; (try dsimp only at hSw); go_simp; (try with_reducible rfl))
  refine rtk 2 (oi := ⟨some 7, .load 46 (.tmp 2), _, _, _, none⟩) (v := ?_) rfl ?_ hH ?_
  rotate_left
  · (intro w hSw; (try dsimp only at hSw); go_simp; (try with_reducible rfl))
  refine rtk 4 (oi := ⟨some 9, .load 46 (.tmp 3), _, _, _, none⟩) (v := ?_) rfl ?_ hH ?_
  rotate_left
  · (intro w hSw; (try dsimp only at hSw); go_simp; (try with_reducible rfl))
  refine rtk 6 (oi := ⟨some 11, .load 46 (.tmp 3), _, _, _, none⟩) (v := ?_) rfl ?_ hH ?_
  rotate_left
  · (intro w hSw; (try dsimp only at hSw); go_simp; (try with_reducible rfl))
  try simp only [Act.put, List.setIfInBounds_toArray, List.set_cons_zero, List.set_cons_succ]
  refine wpAnyH_ready (rs := [1]) (by kernel_rfl) (by simp) ?_
  refine AllReadyH.cons (o := ⟨some 6, .call { callee := .value (.func 39), args := #[.tmp 5], argTypes := #[46] }, _, _, _, none⟩) rfl (fun K hK => ?_) AllReadyH.nil
  go_simp
  (with_reducible refine (C1.out _).mono ?_); rintro e v1_1 ⟨rfl, g⟩
  refine hK.out _ _ (by (try dsimp only); (go_split_ands; exact ⟨Kep.all g (by assumption), Kep.all g (by assumption), Kep.all g (by assumption), Kep.all g (by assumption), Kep.all g (by assumption), Kep.all g (by assumption), Kep.all g (by assumption), Kep.all g (by assumption), Kep.all g (by assumption), Kep.all g (by assumption), Kep.all g (by assumption), Kep.all g (by assumption), Kep.all g (by assumption), Kep.all g (by assumption), Kep.all g (by assumption), Kep.all g (by assumption), Kep.all g (by assumption), Kep.all g (by assumption), Kep.all g (by assumption), Kep.all g (by assumption), kep_some g (by assumption), kep_some g (by assumption), kep_some g (by assumption), kep_some g (by assumption), kep_froz g (by assumption) (by assumption), kep_froz g (by assumption) (by assumption), kep_froz g (by assumption) (by assumption), kep_froz g (by assumption) (by assumption), kep_next (by assumption) g⟩)) (fun hH2 => ?_)
  clear hK K hH; have hH := hH2; clear hH2
  try simp only [Act.put, List.setIfInBounds_toArray, List.set_cons_zero, List.set_cons_succ]
  refine wpAnyH_ready (rs := [3]) (by kernel_rfl) (by simp) ?_
  refine AllReadyH.cons (o := ⟨some 8, .call { callee := .value (.func 40), args := #[.tmp 7], argTypes := #[46] }, _, _, _, none⟩) rfl (fun K hK => ?_) AllReadyH.nil
  go_simp
  (with_reducible refine (C2.out _).mono ?_); rintro e v1_3 ⟨rfl, g⟩
  refine hK.out _ _ (by (try dsimp only); (go_split_ands; exact ⟨Kep.all g (by assumption), Kep.all g (by assumption), Kep.all g (by assumption), Kep.all g (by assumption), Kep.all g (by assumption), Kep.all g (by assumption), Kep.all g (by assumption), Kep.all g (by assumption), Kep.all g (by assumption), Kep.all g (by assumption), Kep.all g (by assumption), Kep.all g (by assumption), Kep.all g (by assumption), Kep.all g (by assumption), Kep.all g (by assumption), Kep.all g (by assumption), Kep.all g (by assumption), Kep.all g (by assumption), Kep.all g (by assumption), Kep.all g (by assumption), kep_some g (by assumption), kep_some g (by assumption), kep_some g (by assumption), kep_some g (by assumption), kep_froz g (by assumption) (by assumption), kep_froz g (by assumption) (by assumption), kep_froz g (by assumption) (by assumption), kep_froz g (by assumption) (by assumption), kep_next (by assumption) g⟩)) (fun hH2 => ?_)
  clear hK K hH; have hH := hH2; clear hH2
  try simp only [Act.put, List.setIfInBounds_toArray, List.set_cons_zero, List.set_cons_succ]
  refine wpAnyH_ready (rs := [5]) (by kernel_rfl) (by simp) ?_
  refine AllReadyH.cons (o := ⟨some 10, .call { callee := .value (.func 39), args := #[.tmp 9], argTypes := #[46] }, _, _, _, none⟩) rfl (fun K hK => ?_) AllReadyH.nil
  go_simp
  (with_reducible refine (C3.out _).mono ?_); rintro e v1_5 ⟨rfl, g⟩
  refine hK.out _ _ (by (try dsimp only); (go_split_ands; exact ⟨Kep.all g (by assumption), Kep.all g (by assumption), Kep.all g (by assumption), Kep.all g (by assumption), Kep.all g (by assumption), Kep.all g (by assumption), Kep.all g (by assumption), Kep.all g (by assumption), Kep.all g (by assumption), Kep.all g (by assumption), Kep.all g (by assumption), Kep.all g (by assumption), Kep.all g (by assumption), Kep.all g (by assumption), Kep.all g (by assumption), Kep.all g (by assumption), Kep.all g (by assumption), Kep.all g (by assumption), Kep.all g (by assumption), Kep.all g (by assumption), kep_some g (by assumption), kep_some g (by assumption), kep_some g (by assumption), kep_some g (by assumption), kep_froz g (by assumption) (by assumption), kep_froz g (by assumption) (by assumption), kep_froz g (by assumption) (by assumption), kep_froz g (by assumption) (by assumption), kep_next (by assumption) g⟩)) (fun hH2 => ?_)
  clear hK K hH; have hH := hH2; clear hH2
  try simp only [Act.put, List.setIfInBounds_toArray, List.set_cons_zero, List.set_cons_succ]
  refine wpAnyH_ready (rs := [7]) (by kernel_rfl) (by simp) ?_
  refine AllReadyH.cons (o := ⟨some 12, .call { callee := .value (.func 40), args := #[.tmp 11], argTypes := #[46] }, _, _, _, none⟩) rfl (fun K hK => ?_) AllReadyH.nil
  go_simp
  (with_reducible refine (C4.out _).mono ?_); rintro e v1_7 ⟨rfl, g⟩
  refine hK.out _ _ (by (try dsimp only); (go_split_ands; exact ⟨Kep.all g (by assumption), Kep.all g (by assumption), Kep.all g (by assumption), Kep.all g (by assumption), Kep.all g (by assumption), Kep.all g (by assumption), Kep.all g (by assumption), Kep.all g (by assumption), Kep.all g (by assumption), Kep.all g (by assumption), Kep.all g (by assumption), Kep.all g (by assumption), Kep.all g (by assumption), Kep.all g (by assumption), Kep.all g (by assumption), Kep.all g (by assumption), Kep.all g (by assumption), Kep.all g (by assumption), Kep.all g (by assumption), Kep.all g (by assumption), kep_some g (by assumption), kep_some g (by assumption), kep_some g (by assumption), kep_some g (by assumption), kep_froz g (by assumption) (by assumption), kep_froz g (by assumption) (by assumption), kep_froz g (by assumption) (by assumption), kep_froz g (by assumption) (by assumption), kep_next (by assumption) g⟩)) (fun hH2 => ?_)
  clear hK K hH; have hH := hH2; clear hH2
  try simp only [Act.put, List.setIfInBounds_toArray, List.set_cons_zero, List.set_cons_succ]
  refine wpAnyH_ready (rs := [8]) (by kernel_rfl) (by simp) ?_
  refine AllReadyH.cons (o := ⟨some 13, .call { callee := .value (.func 38), args := #[.tmp 6, .tmp 8, .tmp 10, .tmp 12], argTypes := #[33, 33, 33, 33] }, _, _, _, none⟩) rfl (fun K hK => ?_) AllReadyH.nil
  go_simp
  (with_reducible refine (C5.out _).mono ?_); rintro e v1_8 ⟨rfl, g⟩
  refine hK.out _ _ (by (try dsimp only); (go_split_ands; exact ⟨Kep.all g (by assumption), Kep.all g (by assumption), Kep.all g (by assumption), Kep.all g (by assumption), Kep.all g (by assumption), Kep.all g (by assumption), Kep.all g (by assumption), Kep.all g (by assumption), Kep.all g (by assumption), Kep.all g (by assumption), Kep.all g (by assumption), Kep.all g (by assumption), Kep.all g (by assumption), Kep.all g (by assumption), Kep.all g (by assumption), Kep.all g (by assumption), Kep.all g (by assumption), Kep.all g (by assumption), Kep.all g (by assumption), Kep.all g (by assumption), kep_some g (by assumption), kep_some g (by assumption), kep_some g (by assumption), kep_some g (by assumption), kep_froz g (by assumption) (by assumption), kep_froz g (by assumption) (by assumption), kep_froz g (by assumption) (by assumption), kep_froz g (by assumption) (by assumption), kep_next (by assumption) g⟩)) (fun hH2 => ?_)
  clear hK K hH; have hH := hH2; clear hH2
  try simp only [Act.put, List.setIfInBounds_toArray, List.set_cons_zero, List.set_cons_succ]
  obtain ⟨x0, x1, x2, x3, x4, x5, x6, x7, x8, x9, y0, y1, y2, y3, y4, y5, y6, y7, y8, y9, sr0, sr1, sr2, sr3, fr0, fr1, fr2, fr3, gg⟩ := id hH
  refine wpAnyH_ready (rs := [9]) (by kernel_rfl) (by simp) ?_
  refine AllReadyH.cons (o := ⟨none, .store 63 (.tmp 4) (.tmp 13), _, _, _, none⟩) rfl (fun K hK => ?_) AllReadyH.nil
  obtain ⟨qr0, eqr0⟩ := Option.isSome_iff_exists.1 sr0
  obtain ⟨qr1, eqr1⟩ := Option.isSome_iff_exists.1 sr1
  obtain ⟨qr2, eqr2⟩ := Option.isSome_iff_exists.1 sr2
  obtain ⟨qr3, eqr3⟩ := Option.isSome_iff_exists.1 sr3
  have br0 := eqr0
  have br1 := eqr1
  have br2 := eqr2
  have br3 := eqr3
  go_simp
  refine hK.out _ _ (by (try dsimp only); exact ⟨sset_far (sset_far (sset_far (sset_far (x0) (by first | (simp; done) | (simp; omega))) (by first | (simp; done) | (simp; omega))) (by first | (simp; done) | (simp; omega))) (by first | (simp; done) | (simp; omega)), sset_far (sset_far (sset_far (sset_far (x1) (by first | (simp; done) | (simp; omega))) (by first | (simp; done) | (simp; omega))) (by first | (simp; done) | (simp; omega))) (by first | (simp; done) | (simp; omega)), sset_far (sset_far (sset_far (sset_far (x2) (by first | (simp; done) | (simp; omega))) (by first | (simp; done) | (simp; omega))) (by first | (simp; done) | (simp; omega))) (by first | (simp; done) | (simp; omega)), sset_far (sset_far (sset_far (sset_far (x3) (by first | (simp; done) | (simp; omega))) (by first | (simp; done) | (simp; omega))) (by first | (simp; done) | (simp; omega))) (by first | (simp; done) | (simp; omega)), sset_far (sset_far (sset_far (sset_far (x4) (by first | (simp; done) | (simp; omega))) (by first | (simp; done) | (simp; omega))) (by first | (simp; done) | (simp; omega))) (by first | (simp; done) | (simp; omega)), sset_far (sset_far (sset_far (sset_far (x5) (by first | (simp; done) | (simp; omega))) (by first | (simp; done) | (simp; omega))) (by first | (simp; done) | (simp; omega))) (by first | (simp; done) | (simp; omega)), sset_far (sset_far (sset_far (sset_far (x6) (by first | (simp; done) | (simp; omega))) (by first | (simp; done) | (simp; omega))) (by first | (simp; done) | (simp; omega))) (by first | (simp; done) | (simp; omega)), sset_far (sset_far (sset_far (sset_far (x7) (by first | (simp; done) | (simp; omega))) (by first | (simp; done) | (simp; omega))) (by first | (simp; done) | (simp; omega))) (by first | (simp; done) | (simp; omega)), sset_far (sset_far (sset_far (sset_far (x8) (by first | (simp; done) | (simp; omega))) (by first | (simp; done) | (simp; omega))) (by first | (simp; done) | (simp; omega))) (by first | (simp; done) | (simp; omega)), sset_far (sset_far (sset_far (sset_far (x9) (by first | (simp; done) | (simp; omega))) (by first | (simp; done) | (simp; omega))) (by first | (simp; done) | (simp; omega))) (by first | (simp; done) | (simp; omega)), sset_far (sset_far (sset_far (sset_far (y0) (by first | (simp; done) | (simp; omega))) (by first | (simp; done) | (simp; omega))) (by first | (simp; done) | (simp; omega))) (by first | (simp; done) | (simp; omega)), sset_far (sset_far (sset_far (sset_far (y1) (by first | (simp; done) | (simp; omega))) (by first | (simp; done) | (simp; omega))) (by first | (simp; done) | (simp; omega))) (by first | (simp; done) | (simp; omega)), sset_far (sset_far (sset_far (sset_far (y2) (by first | (simp; done) | (simp; omega))) (by first | (simp; done) | (simp; omega))) (by first | (simp; done) | (simp; omega))) (by first | (simp; done) | (simp; omega)), sset_far (sset_far (sset_far (sset_far (y3) (by first | (simp; done) | (simp; omega))) (by first | (simp; done) | (simp; omega))) (by first | (simp; done) | (simp; omega))) (by first | (simp; done) | (simp; omega)), sset_far (sset_far (sset_far (sset_far (y4) (by first | (simp; done) | (simp; omega))) (by first | (simp; done) | (simp; omega))) (by first | (simp; done) | (simp; omega))) (by first | (simp; done) | (simp; omega)), sset_far (sset_far (sset_far (sset_far (y5) (by first | (simp; done) | (simp; omega))) (by first | (simp; done) | (simp; omega))) (by first | (simp; done) | (simp; omega))) (by first | (simp; done) | (simp; omega)), sset_far (sset_far (sset_far (sset_far (y6) (by first | (simp; done) | (simp; omega))) (by first | (simp; done) | (simp; omega))) (by first | (simp; done) | (simp; omega))) (by first | (simp; done) | (simp; omega)), sset_far (sset_far (sset_far (sset_far (y7) (by first | (simp; done) | (simp; omega))) (by first | (simp; done) | (simp; omega))) (by first | (simp; done) | (simp; omega))) (by first | (simp; done) | (simp; omega)), sset_far (sset_far (sset_far (sset_far (y8) (by first | (simp; done) | (simp; omega))) (by first | (simp; done) | (simp; omega))) (by first | (simp; done) | (simp; omega))) (by first | (simp; done) | (simp; omega)), sset_far (sset_far (sset_far (sset_far (y9) (by first | (simp; done) | (simp; omega))) (by first | (simp; done) | (simp; omega))) (by first | (simp; done) | (simp; omega))) (by first | (simp; done) | (simp; omega)), sset_some _ _ _ (sset_some _ _ _ (sset_some _ _ _ (sset_some _ _ _ (sr0)))), sset_some _ _ _ (sset_some _ _ _ (sset_some _ _ _ (sset_some _ _ _ (sr1)))), sset_some _ _ _ (sset_some _ _ _ (sset_some _ _ _ (sset_some _ _ _ (sr2)))), sset_some _ _ _ (sset_some _ _ _ (sset_some _ _ _ (sset_some _ _ _ (sr3)))), sset_froz (sset_froz (sset_froz (sset_froz (fr0)))), sset_froz (sset_froz (sset_froz (sset_froz (fr1)))), sset_froz (sset_froz (sset_froz (sset_froz (fr2)))), sset_froz (sset_froz (sset_froz (sset_froz (fr3)))), kep_set (kep_set (kep_set (kep_set (gg) (by first | (simp; done) | (simp; omega)) _) (by first | (simp; done) | (simp; omega)) _) (by first | (simp; done) | (simp; omega)) _) (by first | (simp; done) | (simp; omega)) _⟩) (fun hH2 => ?_)
  clear hK K hH x0 x1 x2 x3 x4 x5 x6 x7 x8 x9 y0 y1 y2 y3 y4 y5 y6 y7 y8 y9 sr0 sr1 sr2 sr3 fr0 fr1 fr2 fr3 gg eqr0 eqr1 eqr2 eqr3; have hH := hH2; clear hH2
  try simp only [Act.put, List.setIfInBounds_toArray, List.set_cons_zero, List.set_cons_succ]
  refine wpAnyH_done (by kernel_rfl) ?_ _
  refine NoPanic.normal ?_
  clear x0 x1 x2 x3 x4 x5 x6 x7 x8 x9 y0 y1 y2 y3 y4 y5 y6 y7 y8 y9 sr0 sr1 sr2 sr3 fr0 fr1 fr2 fr3 gg
  obtain ⟨x0, x1, x2, x3, x4, x5, x6, x7, x8, x9, y0, y1, y2, y3, y4, y5, y6, y7, y8, y9, sr0, sr1, sr2, sr3, fr0, fr1, fr2, fr3, gg⟩ := hH
  go_wp2_with fail
  exact bodyPost_ret (v := .agg #[.int .i32 a, .int .i32 b, .int .i32 c, .int .i32 d]) (by simp [results, Tryz.results25, go_sem, br0, br1, br2, br3]) rfl ⟨rfl, gg⟩
instance (x : Bd) : Decidable (okC x) := by unfold okC; infer_instance
def rgtB (x y : Bd) : Bool := decide (okC x) && (decide (okC y) && decide (x.k ≠ y.k))
theorem rgtB_iff {x y : Bd} : rgtB x y = true ↔ okC x ∧ okC y ∧ x.k ≠ y.k := by
  unfold rgtB
  rw [Bool.and_eq_true, Bool.and_eq_true, decide_eq_true_iff, decide_eq_true_iff, decide_eq_true_iff]
set_option maxRecDepth 100000 in
set_option maxHeartbeats 4000000 in
theorem kro_lt {x y : Bd} (hx : okC x) (hy : okC y) (hk : x.k < y.k) : KRo x y (conV x y) (tchB x y) := fun w => by
  obtain ⟨⟨a, b, c, d, t⟩, hcc⟩ : ∃ z, z = cc x y := ⟨_, rfl⟩
  have C1 := Lib.hid (krc hx hy hcc.symm)
  have hg := cc_good hx hy
  have hi := cc_ind hx hy
  have hn := cln_is hx hy
  have hnb := cln_bd hx hy
  have hR := csm_bd hx hy
  have hti := tch_iff hx hy
  unfold cdx cdy at hi hn
  rw [← hcc] at hg hi hn
  dsimp only at hi hn
  have C2 : Hid (RD2 a b c d t) := Lib.hid hg.rd
  have g1 := hg.a
  have g2 := hg.b
  have g3 := hg.c
  have g4 := hg.d
  dsimp only at g1 g2 g3 g4
  have ht : (cc x y).t = t := by rw [← hcc]
  have l1 := okC_lim hx
  have l2 := okC_lim hy
  obtain ⟨dx, hdx⟩ : ∃ z, z = c - a := ⟨_, rfl⟩
  obtain ⟨dy, hdy⟩ : ∃ z, z = d - b := ⟨_, rfl⟩
  obtain ⟨n, hnn⟩ : ∃ z, z = cln x y := ⟨_, rfl⟩
  obtain ⟨S, hS⟩ : ∃ z, z = csm x y := ⟨_, rfl⟩
  rw [← hdx, ← hdy] at hi hn
  rw [← hnn] at hn hnb hti
  rw [← hS] at hR hti
  have hS2 : x.r + y.r = S := hS.symm
  have q0 : decide (y.k < x.k) = false := decide_eq_false (by omega)
  have hSS : 67108864 ≤ S * S ∧ S * S ≤ 70368744177664 := ⟨Int.mul_le_mul hR.1 hR.1 (by decide) (by omega), Int.mul_le_mul hR.2 hR.2 (by omega) (by decide)⟩
  have htd : tchB x y = decide (t < S * S) := by unfold tchB; rw [ht, ← hS]
  obtain ⟨SS, hSS2⟩ : ∃ z, z = S * S := ⟨_, rfl⟩
  rw [← hSS2] at hSS htd
  have w1 : IntKind.i64.wrap x.r = x.r := by rw [IntKind.wrap_i64]; unfold Cin at *; omega
  have w2 : IntKind.i64.wrap y.r = y.r := by rw [IntKind.wrap_i64]; unfold Cin at *; omega
  have w3 : IntKind.i64.wrap (x.r + y.r) = S := by rw [IntKind.wrap_i64]; unfold Cin at *; omega
  have w5 : IntKind.i64.wrap a = a := by rw [IntKind.wrap_i64]; unfold Cin at *; omega
  have w6 : IntKind.i64.wrap b = b := by rw [IntKind.wrap_i64]; unfold Cin at *; omega
  have w7 : IntKind.i64.wrap c = c := by rw [IntKind.wrap_i64]; unfold Cin at *; omega
  have w8 : IntKind.i64.wrap d = d := by rw [IntKind.wrap_i64]; unfold Cin at *; omega
  have w9 : IntKind.i64.wrap (c - a) = dx := by rw [IntKind.wrap_i64]; unfold Cin at *; omega
  have w10 : IntKind.i64.wrap (d - b) = dy := by rw [IntKind.wrap_i64]; unfold Cin at *; omega
  have u1 : IntKind.u64.wrap S = S := by rw [IntKind.wrap_u64]; omega
  have u2 : IntKind.u64.wrap (S * S) = SS := by rw [← hSS2, IntKind.wrap_u64]; omega
  by_cases hz : tchB x y = true
  · have hlt := hti.1 hz
    have q1 : decide (SS ≤ t) = false := decide_eq_false (by rw [htd] at hz; have := of_decide_eq_true hz; omega)
    obtain ⟨p, hp⟩ : ∃ z, z = ux dx n := ⟨_, rfl⟩
    obtain ⟨q, hq⟩ : ∃ z, z = uy dy n := ⟨_, rfl⟩
    have C3 : Hid (∀ w, Calls Tryz.prog 27 #[.int .i64 dx, .int .i64 dy] w fun e w' => e = .returned (.agg #[.int .i32 p, .int .i32 q]) ∧ Kep w.heap.size w w') := Lib.hid (fun w => kep_calls (runi2 hi.1 hi.2 hn hp.symm hq.symm w))
    have C4 := Lib.hid (rlen2 hi.1 hi.2 hn)
    obtain ⟨dp, hdp⟩ : ∃ z, z = S - n := ⟨_, rfl⟩
    have w11 : IntKind.i64.wrap (S - n) = dp := by rw [← hdp, IntKind.wrap_i64]; omega
    have w12 : IntKind.i32.wrap dp = dp := by rw [IntKind.wrap_i32]; omega
    have hv : conV x y = ⟨x.k, y.k, p, q, dp⟩ := by
      unfold conV conC
      rw [if_pos hz, hdp, hp, hq, hnn, hS, hdx, hdy]
      unfold cdx cdy
      rw [← hcc]
    rw [hv, hz]
    dsimp only
    clear hz hv hp hq hdp hti hlt hi hn hnb hR hSS hSS2 htd hdx hdy hnn hS hS2 l1 l2 ht g1 g2 g3 g4 hg hcc hk hx hy
    go_enter Tryz.func18, Tryz.ntmps18
    go_wp2_with (first
      | ((with_reducible refine (C1.out _).mono ?_); rintro e w1 ⟨rfl, g1⟩
         have x0 := Kep.all g1 (a := ⟨w.heap.size, 0, none⟩) (v := .int .u32 x.k) (by (repeat (first | rw [World.cell?_drew] | rw [World.cell?_alloc_past _ _ _ (by first | (simp; done) | (simp; omega))])); rw [World.cell?_alloc_at _ _ _ _ (by simp)]; rfl)
         have x1 := Kep.all g1 (a := ⟨w.heap.size, 1, none⟩) (v := .int .i32 x.r) (by (repeat (first | rw [World.cell?_drew] | rw [World.cell?_alloc_past _ _ _ (by first | (simp; done) | (simp; omega))])); rw [World.cell?_alloc_at _ _ _ _ (by simp)]; rfl)
         have x2 := Kep.all g1 (a := ⟨w.heap.size, 2, none⟩) (v := .int .i32 x.ax) (by (repeat (first | rw [World.cell?_drew] | rw [World.cell?_alloc_past _ _ _ (by first | (simp; done) | (simp; omega))])); rw [World.cell?_alloc_at _ _ _ _ (by simp)]; rfl)
         have x3 := Kep.all g1 (a := ⟨w.heap.size, 3, none⟩) (v := .int .i32 x.ay) (by (repeat (first | rw [World.cell?_drew] | rw [World.cell?_alloc_past _ _ _ (by first | (simp; done) | (simp; omega))])); rw [World.cell?_alloc_at _ _ _ _ (by simp)]; rfl)
         have x4 := Kep.all g1 (a := ⟨w.heap.size, 4, none⟩) (v := .int .i32 x.m) (by (repeat (first | rw [World.cell?_drew] | rw [World.cell?_alloc_past _ _ _ (by first | (simp; done) | (simp; omega))])); rw [World.cell?_alloc_at _ _ _ _ (by simp)]; rfl)
         have x5 := Kep.all g1 (a := ⟨w.heap.size, 5, none⟩) (v := .int .i32 x.o) (by (repeat (first | rw [World.cell?_drew] | rw [World.cell?_alloc_past _ _ _ (by first | (simp; done) | (simp; omega))])); rw [World.cell?_alloc_at _ _ _ _ (by simp)]; rfl)
         have x6 := Kep.all g1 (a := ⟨w.heap.size, 6, none⟩) (v := .int .i32 x.px) (by (repeat (first | rw [World.cell?_drew] | rw [World.cell?_alloc_past _ _ _ (by first | (simp; done) | (simp; omega))])); rw [World.cell?_alloc_at _ _ _ _ (by simp)]; rfl)
         have x7 := Kep.all g1 (a := ⟨w.heap.size, 7, none⟩) (v := .int .i32 x.py) (by (repeat (first | rw [World.cell?_drew] | rw [World.cell?_alloc_past _ _ _ (by first | (simp; done) | (simp; omega))])); rw [World.cell?_alloc_at _ _ _ _ (by simp)]; rfl)
         have x8 := Kep.all g1 (a := ⟨w.heap.size, 8, none⟩) (v := .int .i32 x.vx) (by (repeat (first | rw [World.cell?_drew] | rw [World.cell?_alloc_past _ _ _ (by first | (simp; done) | (simp; omega))])); rw [World.cell?_alloc_at _ _ _ _ (by simp)]; rfl)
         have x9 := Kep.all g1 (a := ⟨w.heap.size, 9, none⟩) (v := .int .i32 x.vy) (by (repeat (first | rw [World.cell?_drew] | rw [World.cell?_alloc_past _ _ _ (by first | (simp; done) | (simp; omega))])); rw [World.cell?_alloc_at _ _ _ _ (by simp)]; rfl)
         have y0 := Kep.all g1 (a := ⟨w.heap.size + 1, 0, none⟩) (v := .int .u32 y.k) (by (repeat (first | rw [World.cell?_drew] | rw [World.cell?_alloc_past _ _ _ (by first | (simp; done) | (simp; omega))])); rw [World.cell?_alloc_at _ _ _ _ (by simp)]; rfl)
         have y1 := Kep.all g1 (a := ⟨w.heap.size + 1, 1, none⟩) (v := .int .i32 y.r) (by (repeat (first | rw [World.cell?_drew] | rw [World.cell?_alloc_past _ _ _ (by first | (simp; done) | (simp; omega))])); rw [World.cell?_alloc_at _ _ _ _ (by simp)]; rfl)
         have y2 := Kep.all g1 (a := ⟨w.heap.size + 1, 2, none⟩) (v := .int .i32 y.ax) (by (repeat (first | rw [World.cell?_drew] | rw [World.cell?_alloc_past _ _ _ (by first | (simp; done) | (simp; omega))])); rw [World.cell?_alloc_at _ _ _ _ (by simp)]; rfl)
         have y3 := Kep.all g1 (a := ⟨w.heap.size + 1, 3, none⟩) (v := .int .i32 y.ay) (by (repeat (first | rw [World.cell?_drew] | rw [World.cell?_alloc_past _ _ _ (by first | (simp; done) | (simp; omega))])); rw [World.cell?_alloc_at _ _ _ _ (by simp)]; rfl)
         have y4 := Kep.all g1 (a := ⟨w.heap.size + 1, 4, none⟩) (v := .int .i32 y.m) (by (repeat (first | rw [World.cell?_drew] | rw [World.cell?_alloc_past _ _ _ (by first | (simp; done) | (simp; omega))])); rw [World.cell?_alloc_at _ _ _ _ (by simp)]; rfl)
         have y5 := Kep.all g1 (a := ⟨w.heap.size + 1, 5, none⟩) (v := .int .i32 y.o) (by (repeat (first | rw [World.cell?_drew] | rw [World.cell?_alloc_past _ _ _ (by first | (simp; done) | (simp; omega))])); rw [World.cell?_alloc_at _ _ _ _ (by simp)]; rfl)
         have y6 := Kep.all g1 (a := ⟨w.heap.size + 1, 6, none⟩) (v := .int .i32 y.px) (by (repeat (first | rw [World.cell?_drew] | rw [World.cell?_alloc_past _ _ _ (by first | (simp; done) | (simp; omega))])); rw [World.cell?_alloc_at _ _ _ _ (by simp)]; rfl)
         have y7 := Kep.all g1 (a := ⟨w.heap.size + 1, 7, none⟩) (v := .int .i32 y.py) (by (repeat (first | rw [World.cell?_drew] | rw [World.cell?_alloc_past _ _ _ (by first | (simp; done) | (simp; omega))])); rw [World.cell?_alloc_at _ _ _ _ (by simp)]; rfl)
         have y8 := Kep.all g1 (a := ⟨w.heap.size + 1, 8, none⟩) (v := .int .i32 y.vx) (by (repeat (first | rw [World.cell?_drew] | rw [World.cell?_alloc_past _ _ _ (by first | (simp; done) | (simp; omega))])); rw [World.cell?_alloc_at _ _ _ _ (by simp)]; rfl)
         have y9 := Kep.all g1 (a := ⟨w.heap.size + 1, 9, none⟩) (v := .int .i32 y.vy) (by (repeat (first | rw [World.cell?_drew] | rw [World.cell?_alloc_past _ _ _ (by first | (simp; done) | (simp; omega))])); rw [World.cell?_alloc_at _ _ _ _ (by simp)]; rfl)
         have gg := kep_next (kep_more (kep_more (kep_more (Kep.refl _ _) _) _) _) g1
         have sr0 := kep_some g1 (a := ⟨w.heap.size + 1 + 1, 0, none⟩) (by (repeat (first | rw [World.cell?_drew] | rw [World.cell?_alloc_past _ _ _ (by first | (simp; done) | (simp; omega))])); rw [World.cell?_alloc_at _ _ _ _ (by simp)]; rfl)
         have sr1 := kep_some g1 (a := ⟨w.heap.size + 1 + 1, 1, none⟩) (by (repeat (first | rw [World.cell?_drew] | rw [World.cell?_alloc_past _ _ _ (by first | (simp; done) | (simp; omega))])); rw [World.cell?_alloc_at _ _ _ _ (by simp)]; rfl)
         have sr2 := kep_some g1 (a := ⟨w.heap.size + 1 + 1, 2, none⟩) (by (repeat (first | rw [World.cell?_drew] | rw [World.cell?_alloc_past _ _ _ (by first | (simp; done) | (simp; omega))])); rw [World.cell?_alloc_at _ _ _ _ (by simp)]; rfl)
         have sr3 := kep_some g1 (a := ⟨w.heap.size + 1 + 1, 3, none⟩) (by (repeat (first | rw [World.cell?_drew] | rw [World.cell?_alloc_past _ _ _ (by first | (simp; done) | (simp; omega))])); rw [World.cell?_alloc_at _ _ _ _ (by simp)]; rfl)
         have sr4 := kep_some g1 (a := ⟨w.heap.size + 1 + 1, 4, none⟩) (by (repeat (first | rw [World.cell?_drew] | rw [World.cell?_alloc_past _ _ _ (by first | (simp; done) | (simp; omega))])); rw [World.cell?_alloc_at _ _ _ _ (by simp)]; rfl)
         have fr0 := kep_froz g1 (a := ⟨w.heap.size + 1 + 1, 0, none⟩) (by (repeat (first | rw [World.cell?_drew] | rw [World.cell?_alloc_past _ _ _ (by first | (simp; done) | (simp; omega))])); rw [World.cell?_alloc_at _ _ _ _ (by simp)]; rfl) (by (repeat (first | rw [World.frozen?_drew] | rw [World.frozen?_alloc_past _ _ _ (by first | (simp; done) | (simp; omega))])); rw [World.frozen?_alloc_at _ _ _ _ (by simp)])
         have fr1 := kep_froz g1 (a := ⟨w.heap.size + 1 + 1, 1, none⟩) (by (repeat (first | rw [World.cell?_drew] | rw [World.cell?_alloc_past _ _ _ (by first | (simp; done) | (simp; omega))])); rw [World.cell?_alloc_at _ _ _ _ (by simp)]; rfl) (by (repeat (first | rw [World.frozen?_drew] | rw [World.frozen?_alloc_past _ _ _ (by first | (simp; done) | (simp; omega))])); rw [World.frozen?_alloc_at _ _ _ _ (by simp)])
         have fr2 := kep_froz g1 (a := ⟨w.heap.size + 1 + 1, 2, none⟩) (by (repeat (first | rw [World.cell?_drew] | rw [World.cell?_alloc_past _ _ _ (by first | (simp; done) | (simp; omega))])); rw [World.cell?_alloc_at _ _ _ _ (by simp)]; rfl) (by (repeat (first | rw [World.frozen?_drew] | rw [World.frozen?_alloc_past _ _ _ (by first | (simp; done) | (simp; omega))])); rw [World.frozen?_alloc_at _ _ _ _ (by simp)])
         have fr3 := kep_froz g1 (a := ⟨w.heap.size + 1 + 1, 3, none⟩) (by (repeat (first | rw [World.cell?_drew] | rw [World.cell?_alloc_past _ _ _ (by first | (simp; done) | (simp; omega))])); rw [World.cell?_alloc_at _ _ _ _ (by simp)]; rfl) (by (repeat (first | rw [World.frozen?_drew] | rw [World.frozen?_alloc_past _ _ _ (by first | (simp; done) | (simp; omega))])); rw [World.frozen?_alloc_at _ _ _ _ (by simp)])
         have fr4 := kep_froz g1 (a := ⟨w.heap.size + 1 + 1, 4, none⟩) (by (repeat (first | rw [World.cell?_drew] | rw [World.cell?_alloc_past _ _ _ (by first | (simp; done) | (simp; omega))])); rw [World.cell?_alloc_at _ _ _ _ (by simp)]; rfl) (by (repeat (first | rw [World.frozen?_drew] | rw [World.frozen?_alloc_past _ _ _ (by first | (simp; done) | (simp; omega))])); rw [World.frozen?_alloc_at _ _ _ _ (by simp)])
         have zr_w1 : w.heap.size + 1 + 1 < w1.heap.size := by have := g1.size; simp at this; omega
         have zx_w1 : w.heap.size < w1.heap.size := World.block_lt_of_cell? _ _ x0
         have zy_w1 : w.heap.size + 1 < w1.heap.size := World.block_lt_of_cell? _ _ y0)
      | ((with_reducible refine (C2.out _).mono ?_); rintro e w2 ⟨rfl, g2⟩
         replace fr0 := kep_froz g2 (kep_some (kep_more (Kep.refl _ _) _) sr0) (kep_froz (kep_more (Kep.refl _ _) _) sr0 fr0)
         replace sr0 := kep_some g2 (kep_some (kep_more (Kep.refl _ _) _) sr0)
         replace fr1 := kep_froz g2 (kep_some (kep_more (Kep.refl _ _) _) sr1) (kep_froz (kep_more (Kep.refl _ _) _) sr1 fr1)
         replace sr1 := kep_some g2 (kep_some (kep_more (Kep.refl _ _) _) sr1)
         replace fr2 := kep_froz g2 (kep_some (kep_more (Kep.refl _ _) _) sr2) (kep_froz (kep_more (Kep.refl _ _) _) sr2 fr2)
         replace sr2 := kep_some g2 (kep_some (kep_more (Kep.refl _ _) _) sr2)
         replace fr3 := kep_froz g2 (kep_some (kep_more (Kep.refl _ _) _) sr3) (kep_froz (kep_more (Kep.refl _ _) _) sr3 fr3)
         replace sr3 := kep_some g2 (kep_some (kep_more (Kep.refl _ _) _) sr3)
         replace fr4 := kep_froz g2 (kep_some (kep_more (Kep.refl _ _) _) sr4) (kep_froz (kep_more (Kep.refl _ _) _) sr4 fr4)
         replace sr4 := kep_some g2 (kep_some (kep_more (Kep.refl _ _) _) sr4)
         replace x0 := Kep.all g2 (a := ⟨w.heap.size, 0, none⟩) (v := .int .u32 x.k) (Kep.all (kep_more (Kep.refl _ _) _) x0)
         replace x1 := Kep.all g2 (a := ⟨w.heap.size, 1, none⟩) (v := .int .i32 x.r) (Kep.all (kep_more (Kep.refl _ _) _) x1)
         replace x2 := Kep.all g2 (a := ⟨w.heap.size, 2, none⟩) (v := .int .i32 x.ax) (Kep.all (kep_more (Kep.refl _ _) _) x2)
         replace x3 := Kep.all g2 (a := ⟨w.heap.size, 3, none⟩) (v := .int .i32 x.ay) (Kep.all (kep_more (Kep.refl _ _) _) x3)
         replace x4 := Kep.all g2 (a := ⟨w.heap.size, 4, none⟩) (v := .int .i32 x.m) (Kep.all (kep_more (Kep.refl _ _) _) x4)
         replace x5 := Kep.all g2 (a := ⟨w.heap.size, 5, none⟩) (v := .int .i32 x.o) (Kep.all (kep_more (Kep.refl _ _) _) x5)
         replace x6 := Kep.all g2 (a := ⟨w.heap.size, 6, none⟩) (v := .int .i32 x.px) (Kep.all (kep_more (Kep.refl _ _) _) x6)
         replace x7 := Kep.all g2 (a := ⟨w.heap.size, 7, none⟩) (v := .int .i32 x.py) (Kep.all (kep_more (Kep.refl _ _) _) x7)
         replace x8 := Kep.all g2 (a := ⟨w.heap.size, 8, none⟩) (v := .int .i32 x.vx) (Kep.all (kep_more (Kep.refl _ _) _) x8)
         replace x9 := Kep.all g2 (a := ⟨w.heap.size, 9, none⟩) (v := .int .i32 x.vy) (Kep.all (kep_more (Kep.refl _ _) _) x9)
         replace y0 := Kep.all g2 (a := ⟨w.heap.size + 1, 0, none⟩) (v := .int .u32 y.k) (Kep.all (kep_more (Kep.refl _ _) _) y0)
         replace y1 := Kep.all g2 (a := ⟨w.heap.size + 1, 1, none⟩) (v := .int .i32 y.r) (Kep.all (kep_more (Kep.refl _ _) _) y1)
         replace y2 := Kep.all g2 (a := ⟨w.heap.size + 1, 2, none⟩) (v := .int .i32 y.ax) (Kep.all (kep_more (Kep.refl _ _) _) y2)
         replace y3 := Kep.all g2 (a := ⟨w.heap.size + 1, 3, none⟩) (v := .int .i32 y.ay) (Kep.all (kep_more (Kep.refl _ _) _) y3)
         replace y4 := Kep.all g2 (a := ⟨w.heap.size + 1, 4, none⟩) (v := .int .i32 y.m) (Kep.all (kep_more (Kep.refl _ _) _) y4)
         replace y5 := Kep.all g2 (a := ⟨w.heap.size + 1, 5, none⟩) (v := .int .i32 y.o) (Kep.all (kep_more (Kep.refl _ _) _) y5)
         replace y6 := Kep.all g2 (a := ⟨w.heap.size + 1, 6, none⟩) (v := .int .i32 y.px) (Kep.all (kep_more (Kep.refl _ _) _) y6)
         replace y7 := Kep.all g2 (a := ⟨w.heap.size + 1, 7, none⟩) (v := .int .i32 y.py) (Kep.all (kep_more (Kep.refl _ _) _) y7)
         replace y8 := Kep.all g2 (a := ⟨w.heap.size + 1, 8, none⟩) (v := .int .i32 y.vx) (Kep.all (kep_more (Kep.refl _ _) _) y8)
         replace y9 := Kep.all g2 (a := ⟨w.heap.size + 1, 9, none⟩) (v := .int .i32 y.vy) (Kep.all (kep_more (Kep.refl _ _) _) y9)
         have s0 := Kep.all g2 (a := ⟨w1.heap.size, 0, none⟩) (v := .int .i32 a) (by (repeat (first | rw [World.cell?_drew] | rw [World.cell?_alloc_past _ _ _ (by first | (simp; done) | (simp; omega))])); rw [World.cell?_alloc_at _ _ _ _ (by simp)]; rfl)
         have s1 := Kep.all g2 (a := ⟨w1.heap.size, 1, none⟩) (v := .int .i32 b) (by (repeat (first | rw [World.cell?_drew] | rw [World.cell?_alloc_past _ _ _ (by first | (simp; done) | (simp; omega))])); rw [World.cell?_alloc_at _ _ _ _ (by simp)]; rfl)
         have s2 := Kep.all g2 (a := ⟨w1.heap.size, 2, none⟩) (v := .int .i32 c) (by (repeat (first | rw [World.cell?_drew] | rw [World.cell?_alloc_past _ _ _ (by first | (simp; done) | (simp; omega))])); rw [World.cell?_alloc_at _ _ _ _ (by simp)]; rfl)
         have s3 := Kep.all g2 (a := ⟨w1.heap.size, 3, none⟩) (v := .int .i32 d) (by (repeat (first | rw [World.cell?_drew] | rw [World.cell?_alloc_past _ _ _ (by first | (simp; done) | (simp; omega))])); rw [World.cell?_alloc_at _ _ _ _ (by simp)]; rfl)
         replace gg := kep_next (kep_more gg _) g2
         have zx_w2 : w.heap.size < w2.heap.size := World.block_lt_of_cell? _ _ x0
         have zy_w2 : w.heap.size + 1 < w2.heap.size := World.block_lt_of_cell? _ _ y0
         have zs_w2 : w1.heap.size < w2.heap.size := World.block_lt_of_cell? _ _ s0))
    refine wp_region_noPanic ?_
    refine wp_region_held_drew (S := (fun w' => w'.cell? ⟨w.heap.size, 0, none⟩ = some (.int .u32 x.k) ∧ w'.cell? ⟨w.heap.size, 1, none⟩ = some (.int .i32 x.r) ∧ w'.cell? ⟨w.heap.size, 2, none⟩ = some (.int .i32 x.ax) ∧ w'.cell? ⟨w.heap.size, 3, none⟩ = some (.int .i32 x.ay) ∧ w'.cell? ⟨w.heap.size, 4, none⟩ = some (.int .i32 x.m) ∧ w'.cell? ⟨w.heap.size, 5, none⟩ = some (.int .i32 x.o) ∧ w'.cell? ⟨w.heap.size, 6, none⟩ = some (.int .i32 x.px) ∧ w'.cell? ⟨w.heap.size, 7, none⟩ = some (.int .i32 x.py) ∧ w'.cell? ⟨w.heap.size, 8, none⟩ = some (.int .i32 x.vx) ∧ w'.cell? ⟨w.heap.size, 9, none⟩ = some (.int .i32 x.vy) ∧ w'.cell? ⟨w.heap.size + 1, 0, none⟩ = some (.int .u32 y.k) ∧ w'.cell? ⟨w.heap.size + 1, 1, none⟩ = some (.int .i32 y.r) ∧ w'.cell? ⟨w.heap.size + 1, 2, none⟩ = some (.int .i32 y.ax) ∧ w'.cell? ⟨w.heap.size + 1, 3, none⟩ = some (.int .i32 y.ay) ∧ w'.cell? ⟨w.heap.size + 1, 4, none⟩ = some (.int .i32 y.m) ∧ w'.cell? ⟨w.heap.size + 1, 5, none⟩ = some (.int .i32 y.o) ∧ w'.cell? ⟨w.heap.size + 1, 6, none⟩ = some (.int .i32 y.px) ∧ w'.cell? ⟨w.heap.size + 1, 7, none⟩ = some (.int .i32 y.py) ∧ w'.cell? ⟨w.heap.size + 1, 8, none⟩ = some (.int .i32 y.vx) ∧ w'.cell? ⟨w.heap.size + 1, 9, none⟩ = some (.int .i32 y.vy) ∧ w'.cell? ⟨w1.heap.size, 0, none⟩ = some (.int .i32 a) ∧ w'.cell? ⟨w1.heap.size, 1, none⟩ = some (.int .i32 b) ∧ w'.cell? ⟨w1.heap.size, 2, none⟩ = some (.int .i32 c) ∧ w'.cell? ⟨w1.heap.size, 3, none⟩ = some (.int .i32 d) ∧ (w'.cell? ⟨w.heap.size + 1 + 1, 0, none⟩).isSome = true ∧ (w'.cell? ⟨w.heap.size + 1 + 1, 1, none⟩).isSome = true ∧ (w'.cell? ⟨w.heap.size + 1 + 1, 2, none⟩).isSome = true ∧ (w'.cell? ⟨w.heap.size + 1 + 1, 3, none⟩).isSome = true ∧ (w'.cell? ⟨w.heap.size + 1 + 1, 4, none⟩).isSome = true ∧ w'.frozen? ⟨w.heap.size + 1 + 1, 0, none⟩ = false ∧ w'.frozen? ⟨w.heap.size + 1 + 1, 1, none⟩ = false ∧ w'.frozen? ⟨w.heap.size + 1 + 1, 2, none⟩ = false ∧ w'.frozen? ⟨w.heap.size + 1 + 1, 3, none⟩ = false ∧ w'.frozen? ⟨w.heap.size + 1 + 1, 4, none⟩ = false ∧ Kep w.heap.size w w')) (by kernel_rfl) (⟨by rw [World.cell?_drew]; exact x0, by rw [World.cell?_drew]; exact x1, by rw [World.cell?_drew]; exact x2, by rw [World.cell?_drew]; exact x3, by rw [World.cell?_drew]; exact x4, by rw [World.cell?_drew]; exact x5, by rw [World.cell?_drew]; exact x6, by rw [World.cell?_drew]; exact x7, by rw [World.cell?_drew]; exact x8, by rw [World.cell?_drew]; exact x9, by rw [World.cell?_drew]; exact y0, by rw [World.cell?_drew]; exact y1, by rw [World.cell?_drew]; exact y2, by rw [World.cell?_drew]; exact y3, by rw [World.cell?_drew]; exact y4, by rw [World.cell?_drew]; exact y5, by rw [World.cell?_drew]; exact y6, by rw [World.cell?_drew]; exact y7, by rw [World.cell?_drew]; exact y8, by rw [World.cell?_drew]; exact y9, by rw [World.cell?_drew]; exact s0, by rw [World.cell?_drew]; exact s1, by rw [World.cell?_drew]; exact s2, by rw [World.cell?_drew]; exact s3, by rw [World.cell?_drew]; exact sr0, by rw [World.cell?_drew]; exact sr1, by rw [World.cell?_drew]; exact sr2, by rw [World.cell?_drew]; exact sr3, by rw [World.cell?_drew]; exact sr4, by rw [World.frozen?_drew]; exact fr0, by rw [World.frozen?_drew]; exact fr1, by rw [World.frozen?_drew]; exact fr2, by rw [World.frozen?_drew]; exact fr3, by rw [World.frozen?_drew]; exact fr4, kep_drew gg⟩) (fun hH => ?_)
    refine rtk 0 (oi := ⟨some 57, .fieldAddr 46 (.tmp 2) 0, _, _, _, none⟩) (v := ?_) rfl ?_ hH ?_
    rotate_left
    · (intro w hSw; (try dsimp only at hSw); go_simp; (try with_reducible rfl))
    refine rtk 1 (oi := ⟨some 58, .load 24 (.tmp 57), _, _, _, none⟩) (v := ?_) rfl ?_ hH ?_
    rotate_left
    · (intro w hSw; (try dsimp only at hSw); go_simp; (try with_reducible rfl))
    refine rtk 2 (oi := ⟨some 59, .fieldAddr 46 (.tmp 3) 0, _, _, _, none⟩) (v := ?_) rfl ?_ hH ?_
    rotate_left
    · (intro w hSw; (try dsimp only at hSw); go_simp; (try with_reducible rfl))
    refine rtk 3 (oi := ⟨some 60, .load 24 (.tmp 59), _, _, _, none⟩) (v := ?_) rfl ?_ hH ?_
    rotate_left
    · (intro w hSw; (try dsimp only at hSw); go_simp; (try with_reducible rfl))
    try simp only [Act.put, List.setIfInBounds_toArray, List.set_cons_zero, List.set_cons_succ]
    refine rtk 4 (oi := ⟨some 61, .build 31 #[(0, .tmp 58), (1, .tmp 60)], _, _, _, none⟩) (v := ?_) rfl ?_ hH ?_
    rotate_left
    · (intro w hSw; (try dsimp only at hSw); go_simp; (try with_reducible rfl))
    refine rtk 5 (oi := ⟨some 62, .move (.tmp 8), _, _, _, none⟩) (v := ?_) rfl ?_ hH ?_
    rotate_left
    · (intro w hSw; (try dsimp only at hSw); go_simp; (try with_reducible rfl))
    refine rtk 6 (oi := ⟨some 63, .move (.tmp 9), _, _, _, none⟩) (v := ?_) rfl ?_ hH ?_
    rotate_left
    · (intro w hSw; (try dsimp only at hSw); go_simp; (try with_reducible rfl))
    refine rtk 8 (oi := ⟨some 65, .move (.tmp 7), _, _, _, none⟩) (v := ?_) rfl ?_ hH ?_
    rotate_left
    · (intro w hSw; (try dsimp only at hSw); go_simp; (try with_reducible rfl))
    try simp only [Act.put, List.setIfInBounds_toArray, List.set_cons_zero, List.set_cons_succ]
    refine rtk 9 (oi := ⟨some 66, .move (.tmp 8), _, _, _, none⟩) (v := ?_) rfl ?_ hH ?_
    rotate_left
    · (intro w hSw; (try dsimp only at hSw); go_simp; (try with_reducible rfl))
    refine rtk 10 (oi := ⟨some 67, .move (.tmp 9), _, _, _, none⟩) (v := ?_) rfl ?_ hH ?_
    rotate_left
    · (intro w hSw; (try dsimp only at hSw); go_simp; (try with_reducible rfl))
    try simp only [Act.put, List.setIfInBounds_toArray, List.set_cons_zero, List.set_cons_succ]
    refine wpAnyH_ready (rs := [7]) (by kernel_rfl) (by simp) ?_
    refine AllReadyH.cons (o := ⟨some 64, .call { callee := .value (.func 27), args := #[.tmp 62, .tmp 63], argTypes := #[2, 2] }, _, _, _, none⟩) rfl (fun K hK => ?_) AllReadyH.nil
    go_simp
    (with_reducible refine (C3.out _).mono ?_); rintro e v9_7 ⟨rfl, g⟩
    refine hK.out _ _ (by (try dsimp only); (go_split_ands; exact ⟨Kep.all g (by assumption), Kep.all g (by assumption), Kep.all g (by assumption), Kep.all g (by assumption), Kep.all g (by assumption), Kep.all g (by assumption), Kep.all g (by assumption), Kep.all g (by assumption), Kep.all g (by assumption), Kep.all g (by assumption), Kep.all g (by assumption), Kep.all g (by assumption), Kep.all g (by assumption), Kep.all g (by assumption), Kep.all g (by assumption), Kep.all g (by assumption), Kep.all g (by assumption), Kep.all g (by assumption), Kep.all g (by assumption), Kep.all g (by assumption), Kep.all g (by assumption), Kep.all g (by assumption), Kep.all g (by assumption), Kep.all g (by assumption), kep_some g (by assumption), kep_some g (by assumption), kep_some g (by assumption), kep_some g (by assumption), kep_some g (by assumption), kep_froz g (by assumption) (by assumption), kep_froz g (by assumption) (by assumption), kep_froz g (by assumption) (by assumption), kep_froz g (by assumption) (by assumption), kep_froz g (by assumption) (by assumption), kep_next (by assumption) g⟩)) (fun hH2 => ?_)
    clear hK K hH; have hH := hH2; clear hH2
    try simp only [Act.put, List.setIfInBounds_toArray, List.set_cons_zero, List.set_cons_succ]
    refine wpAnyH_ready (rs := [11]) (by kernel_rfl) (by simp) ?_
    refine AllReadyH.cons (o := ⟨some 68, .call { callee := .value (.func 28), args := #[.tmp 66, .tmp 67], argTypes := #[2, 2] }, _, _, _, none⟩) rfl (fun K hK => ?_) AllReadyH.nil
    go_simp
    (with_reducible refine (C4.out _).mono ?_); rintro e v9_11 ⟨rfl, rfl⟩
    refine hK.out _ _ hH (fun hH2 => ?_)
    clear hK K hH; have hH := hH2; clear hH2
    refine rtk 12 (oi := ⟨some 69, .binOp .sub 2 (.tmp 65) (.tmp 68) 2, _, _, _, none⟩) (v := ?_) rfl ?_ hH ?_
    rotate_left
    · (intro w hSw; (try dsimp only at hSw); go_simp; (try with_reducible rfl))
    refine rtk 13 (oi := ⟨some 70, .convert 2 21 (.tmp 69), _, _, _, none⟩) (v := ?_) rfl ?_ hH ?_
    rotate_left
    · (intro w hSw; (try dsimp only at hSw); go_simp; (try with_reducible rfl))
    refine rtk 14 (oi := ⟨some 71, .build 35 #[(0, .tmp 61), (1, .tmp 64), (2, .tmp 70)], _, _, _, none⟩) (v := ?_) rfl ?_ hH ?_
    rotate_left
    · (intro w hSw; (try dsimp only at hSw); go_simp; (try with_reducible rfl))
    try simp only [Act.put, List.setIfInBounds_toArray, List.set_cons_zero, List.set_cons_succ]
    obtain ⟨x0, x1, x2, x3, x4, x5, x6, x7, x8, x9, y0, y1, y2, y3, y4, y5, y6, y7, y8, y9, s0, s1, s2, s3, sr0, sr1, sr2, sr3, sr4, fr0, fr1, fr2, fr3, fr4, gg⟩ := id hH
    refine wpAnyH_ready (rs := [15]) (by kernel_rfl) (by simp) ?_
    refine AllReadyH.cons (o := ⟨none, .store 35 (.tmp 4) (.tmp 71), _, _, _, none⟩) rfl (fun K hK => ?_) AllReadyH.nil
    obtain ⟨qr0, eqr0⟩ := Option.isSome_iff_exists.1 sr0
    obtain ⟨qr1, eqr1⟩ := Option.isSome_iff_exists.1 sr1
    obtain ⟨qr2, eqr2⟩ := Option.isSome_iff_exists.1 sr2
    obtain ⟨qr3, eqr3⟩ := Option.isSome_iff_exists.1 sr3
    obtain ⟨qr4, eqr4⟩ := Option.isSome_iff_exists.1 sr4
    have br0 := eqr0
    have br1 := eqr1
    have br2 := eqr2
    have br3 := eqr3
    have br4 := eqr4
    go_simp
    refine hK.out _ _ (by (try dsimp only); exact ⟨sset_far (sset_far (sset_far (sset_far (sset_far (x0) (by first | (simp; done) | (simp; omega))) (by first | (simp; done) | (simp; omega))) (by first | (simp; done) | (simp; omega))) (by first | (simp; done) | (simp; omega))) (by first | (simp; done) | (simp; omega)), sset_far (sset_far (sset_far (sset_far (sset_far (x1) (by first | (simp; done) | (simp; omega))) (by first | (simp; done) | (simp; omega))) (by first | (simp; done) | (simp; omega))) (by first | (simp; done) | (simp; omega))) (by first | (simp; done) | (simp; omega)), sset_far (sset_far (sset_far (sset_far (sset_far (x2) (by first | (simp; done) | (simp; omega))) (by first | (simp; done) | (simp; omega))) (by first | (simp; done) | (simp; omega))) (by first | (simp; done) | (simp; omega))) (by first | (simp; done) | (simp; omega)), sset_far (sset_far (sset_far (sset_far (sset_far (x3) (by first | (simp; done) | (simp; omega))) (by first | (simp; done) | (simp; omega))) (by first | (simp; done) | (simp; omega))) (by first | (simp; done) | (simp; omega))) (by first | (simp; done) | (simp; omega)), sset_far (sset_far (sset_far (sset_far (sset_far (x4) (by first | (simp; done) | (simp; omega))) (by first | (simp; done) | (simp; omega))) (by first | (simp; done) | (simp; omega))) (by first | (simp; done) | (simp; omega))) (by first | (simp; done) | (simp; omega)), sset_far (sset_far (sset_far (sset_far (sset_far (x5) (by first | (simp; done) | (simp; omega))) (by first | (simp; done) | (simp; omega))) (by first | (simp; done) | (simp; omega))) (by first | (simp; done) | (simp; omega))) (by first | (simp; done) | (simp; omega)), sset_far (sset_far (sset_far (sset_far (sset_far (x6) (by first | (simp; done) | (simp; omega))) (by first | (simp; done) | (simp; omega))) (by first | (simp; done) | (simp; omega))) (by first | (simp; done) | (simp; omega))) (by first | (simp; done) | (simp; omega)), sset_far (sset_far (sset_far (sset_far (sset_far (x7) (by first | (simp; done) | (simp; omega))) (by first | (simp; done) | (simp; omega))) (by first | (simp; done) | (simp; omega))) (by first | (simp; done) | (simp; omega))) (by first | (simp; done) | (simp; omega)), sset_far (sset_far (sset_far (sset_far (sset_far (x8) (by first | (simp; done) | (simp; omega))) (by first | (simp; done) | (simp; omega))) (by first | (simp; done) | (simp; omega))) (by first | (simp; done) | (simp; omega))) (by first | (simp; done) | (simp; omega)), sset_far (sset_far (sset_far (sset_far (sset_far (x9) (by first | (simp; done) | (simp; omega))) (by first | (simp; done) | (simp; omega))) (by first | (simp; done) | (simp; omega))) (by first | (simp; done) | (simp; omega))) (by first | (simp; done) | (simp; omega)), sset_far (sset_far (sset_far (sset_far (sset_far (y0) (by first | (simp; done) | (simp; omega))) (by first | (simp; done) | (simp; omega))) (by first | (simp; done) | (simp; omega))) (by first | (simp; done) | (simp; omega))) (by first | (simp; done) | (simp; omega)), sset_far (sset_far (sset_far (sset_far (sset_far (y1) (by first | (simp; done) | (simp; omega))) (by first | (simp; done) | (simp; omega))) (by first | (simp; done) | (simp; omega))) (by first | (simp; done) | (simp; omega))) (by first | (simp; done) | (simp; omega)), sset_far (sset_far (sset_far (sset_far (sset_far (y2) (by first | (simp; done) | (simp; omega))) (by first | (simp; done) | (simp; omega))) (by first | (simp; done) | (simp; omega))) (by first | (simp; done) | (simp; omega))) (by first | (simp; done) | (simp; omega)), sset_far (sset_far (sset_far (sset_far (sset_far (y3) (by first | (simp; done) | (simp; omega))) (by first | (simp; done) | (simp; omega))) (by first | (simp; done) | (simp; omega))) (by first | (simp; done) | (simp; omega))) (by first | (simp; done) | (simp; omega)), sset_far (sset_far (sset_far (sset_far (sset_far (y4) (by first | (simp; done) | (simp; omega))) (by first | (simp; done) | (simp; omega))) (by first | (simp; done) | (simp; omega))) (by first | (simp; done) | (simp; omega))) (by first | (simp; done) | (simp; omega)), sset_far (sset_far (sset_far (sset_far (sset_far (y5) (by first | (simp; done) | (simp; omega))) (by first | (simp; done) | (simp; omega))) (by first | (simp; done) | (simp; omega))) (by first | (simp; done) | (simp; omega))) (by first | (simp; done) | (simp; omega)), sset_far (sset_far (sset_far (sset_far (sset_far (y6) (by first | (simp; done) | (simp; omega))) (by first | (simp; done) | (simp; omega))) (by first | (simp; done) | (simp; omega))) (by first | (simp; done) | (simp; omega))) (by first | (simp; done) | (simp; omega)), sset_far (sset_far (sset_far (sset_far (sset_far (y7) (by first | (simp; done) | (simp; omega))) (by first | (simp; done) | (simp; omega))) (by first | (simp; done) | (simp; omega))) (by first | (simp; done) | (simp; omega))) (by first | (simp; done) | (simp; omega)), sset_far (sset_far (sset_far (sset_far (sset_far (y8) (by first | (simp; done) | (simp; omega))) (by first | (simp; done) | (simp; omega))) (by first | (simp; done) | (simp; omega))) (by first | (simp; done) | (simp; omega))) (by first | (simp; done) | (simp; omega)), sset_far (sset_far (sset_far (sset_far (sset_far (y9) (by first | (simp; done) | (simp; omega))) (by first | (simp; done) | (simp; omega))) (by first | (simp; done) | (simp; omega))) (by first | (simp; done) | (simp; omega))) (by first | (simp; done) | (simp; omega)), sset_far (sset_far (sset_far (sset_far (sset_far (s0) (by first | (simp; done) | (simp; omega))) (by first | (simp; done) | (simp; omega))) (by first | (simp; done) | (simp; omega))) (by first | (simp; done) | (simp; omega))) (by first | (simp; done) | (simp; omega)), sset_far (sset_far (sset_far (sset_far (sset_far (s1) (by first | (simp; done) | (simp; omega))) (by first | (simp; done) | (simp; omega))) (by first | (simp; done) | (simp; omega))) (by first | (simp; done) | (simp; omega))) (by first | (simp; done) | (simp; omega)), sset_far (sset_far (sset_far (sset_far (sset_far (s2) (by first | (simp; done) | (simp; omega))) (by first | (simp; done) | (simp; omega))) (by first | (simp; done) | (simp; omega))) (by first | (simp; done) | (simp; omega))) (by first | (simp; done) | (simp; omega)), sset_far (sset_far (sset_far (sset_far (sset_far (s3) (by first | (simp; done) | (simp; omega))) (by first | (simp; done) | (simp; omega))) (by first | (simp; done) | (simp; omega))) (by first | (simp; done) | (simp; omega))) (by first | (simp; done) | (simp; omega)), sset_some _ _ _ (sset_some _ _ _ (sset_some _ _ _ (sset_some _ _ _ (sset_some _ _ _ (sr0))))), sset_some _ _ _ (sset_some _ _ _ (sset_some _ _ _ (sset_some _ _ _ (sset_some _ _ _ (sr1))))), sset_some _ _ _ (sset_some _ _ _ (sset_some _ _ _ (sset_some _ _ _ (sset_some _ _ _ (sr2))))), sset_some _ _ _ (sset_some _ _ _ (sset_some _ _ _ (sset_some _ _ _ (sset_some _ _ _ (sr3))))), sset_some _ _ _ (sset_some _ _ _ (sset_some _ _ _ (sset_some _ _ _ (sset_some _ _ _ (sr4))))), sset_froz (sset_froz (sset_froz (sset_froz (sset_froz (fr0))))), sset_froz (sset_froz (sset_froz (sset_froz (sset_froz (fr1))))), sset_froz (sset_froz (sset_froz (sset_froz (sset_froz (fr2))))), sset_froz (sset_froz (sset_froz (sset_froz (sset_froz (fr3))))), sset_froz (sset_froz (sset_froz (sset_froz (sset_froz (fr4))))), kep_set (kep_set (kep_set (kep_set (kep_set (gg) (by first | (simp; done) | (simp; omega)) _) (by first | (simp; done) | (simp; omega)) _) (by first | (simp; done) | (simp; omega)) _) (by first | (simp; done) | (simp; omega)) _) (by first | (simp; done) | (simp; omega)) _⟩) (fun hH2 => ?_)
    clear hK K hH x0 x1 x2 x3 x4 x5 x6 x7 x8 x9 y0 y1 y2 y3 y4 y5 y6 y7 y8 y9 s0 s1 s2 s3 sr0 sr1 sr2 sr3 sr4 fr0 fr1 fr2 fr3 fr4 gg eqr0 eqr1 eqr2 eqr3 eqr4; have hH := hH2; clear hH2
    refine rtk 16 (oi := ⟨some 5, .assign (.const (Value.bool true)), _, _, _, none⟩) (v := ?_) rfl ?_ hH ?_
    rotate_left
    · (intro w hSw; (try dsimp only at hSw); go_simp; (try with_reducible rfl))
    try simp only [Act.put, List.setIfInBounds_toArray, List.set_cons_zero, List.set_cons_succ]
    refine wpAnyH_done (by kernel_rfl) ?_ _
    refine NoPanic.normal ?_
    clear x0 x1 x2 x3 x4 x5 x6 x7 x8 x9 y0 y1 y2 y3 y4 y5 y6 y7 y8 y9 s0 s1 s2 s3 sr0 sr1 sr2 sr3 sr4 fr0 fr1 fr2 fr3 fr4 gg
    obtain ⟨x0, x1, x2, x3, x4, x5, x6, x7, x8, x9, y0, y1, y2, y3, y4, y5, y6, y7, y8, y9, s0, s1, s2, s3, sr0, sr1, sr2, sr3, sr4, fr0, fr1, fr2, fr3, fr4, gg⟩ := hH
    go_wp2_with fail
    exact bodyPost_ret (v := .tuple #[.agg #[.int .u32 x.k, .int .u32 y.k, .int .i32 p, .int .i32 q, .int .i32 dp], .bool true]) (by simp [results, Tryz.results18, go_sem, br0, br1, br2, br3, br4]) rfl ⟨rfl, gg⟩
  · have hz2 : tchB x y = false := by simpa using hz
    have q1 : decide (SS ≤ t) = true := decide_eq_true (by rw [htd] at hz2; have := of_decide_eq_false hz2; omega)
    have hv : conV x y = ⟨0, 0, 0, 0, 0⟩ := by unfold conV; rw [if_neg hz]
    rw [hv, hz2]
    dsimp only
    clear hz hz2 hv hti hi hn hnb hR hSS hSS2 htd hdx hdy hnn hS hS2 l1 l2 ht g1 g2 g3 g4 hg hcc hk hx hy
    go_enter Tryz.func18, Tryz.ntmps18
    go_wp2_with (first
      | ((with_reducible refine (C1.out _).mono ?_); rintro e w1 ⟨rfl, g1⟩
         have x0 := Kep.all g1 (a := ⟨w.heap.size, 0, none⟩) (v := .int .u32 x.k) (by (repeat (first | rw [World.cell?_drew] | rw [World.cell?_alloc_past _ _ _ (by first | (simp; done) | (simp; omega))])); rw [World.cell?_alloc_at _ _ _ _ (by simp)]; rfl)
         have x1 := Kep.all g1 (a := ⟨w.heap.size, 1, none⟩) (v := .int .i32 x.r) (by (repeat (first | rw [World.cell?_drew] | rw [World.cell?_alloc_past _ _ _ (by first | (simp; done) | (simp; omega))])); rw [World.cell?_alloc_at _ _ _ _ (by simp)]; rfl)
         have x2 := Kep.all g1 (a := ⟨w.heap.size, 2, none⟩) (v := .int .i32 x.ax) (by (repeat (first | rw [World.cell?_drew] | rw [World.cell?_alloc_past _ _ _ (by first | (simp; done) | (simp; omega))])); rw [World.cell?_alloc_at _ _ _ _ (by simp)]; rfl)
         have x3 := Kep.all g1 (a := ⟨w.heap.size, 3, none⟩) (v := .int .i32 x.ay) (by (repeat (first | rw [World.cell?_drew] | rw [World.cell?_alloc_past _ _ _ (by first | (simp; done) | (simp; omega))])); rw [World.cell?_alloc_at _ _ _ _ (by simp)]; rfl)
         have x4 := Kep.all g1 (a := ⟨w.heap.size, 4, none⟩) (v := .int .i32 x.m) (by (repeat (first | rw [World.cell?_drew] | rw [World.cell?_alloc_past _ _ _ (by first | (simp; done) | (simp; omega))])); rw [World.cell?_alloc_at _ _ _ _ (by simp)]; rfl)
         have x5 := Kep.all g1 (a := ⟨w.heap.size, 5, none⟩) (v := .int .i32 x.o) (by (repeat (first | rw [World.cell?_drew] | rw [World.cell?_alloc_past _ _ _ (by first | (simp; done) | (simp; omega))])); rw [World.cell?_alloc_at _ _ _ _ (by simp)]; rfl)
         have x6 := Kep.all g1 (a := ⟨w.heap.size, 6, none⟩) (v := .int .i32 x.px) (by (repeat (first | rw [World.cell?_drew] | rw [World.cell?_alloc_past _ _ _ (by first | (simp; done) | (simp; omega))])); rw [World.cell?_alloc_at _ _ _ _ (by simp)]; rfl)
         have x7 := Kep.all g1 (a := ⟨w.heap.size, 7, none⟩) (v := .int .i32 x.py) (by (repeat (first | rw [World.cell?_drew] | rw [World.cell?_alloc_past _ _ _ (by first | (simp; done) | (simp; omega))])); rw [World.cell?_alloc_at _ _ _ _ (by simp)]; rfl)
         have x8 := Kep.all g1 (a := ⟨w.heap.size, 8, none⟩) (v := .int .i32 x.vx) (by (repeat (first | rw [World.cell?_drew] | rw [World.cell?_alloc_past _ _ _ (by first | (simp; done) | (simp; omega))])); rw [World.cell?_alloc_at _ _ _ _ (by simp)]; rfl)
         have x9 := Kep.all g1 (a := ⟨w.heap.size, 9, none⟩) (v := .int .i32 x.vy) (by (repeat (first | rw [World.cell?_drew] | rw [World.cell?_alloc_past _ _ _ (by first | (simp; done) | (simp; omega))])); rw [World.cell?_alloc_at _ _ _ _ (by simp)]; rfl)
         have y0 := Kep.all g1 (a := ⟨w.heap.size + 1, 0, none⟩) (v := .int .u32 y.k) (by (repeat (first | rw [World.cell?_drew] | rw [World.cell?_alloc_past _ _ _ (by first | (simp; done) | (simp; omega))])); rw [World.cell?_alloc_at _ _ _ _ (by simp)]; rfl)
         have y1 := Kep.all g1 (a := ⟨w.heap.size + 1, 1, none⟩) (v := .int .i32 y.r) (by (repeat (first | rw [World.cell?_drew] | rw [World.cell?_alloc_past _ _ _ (by first | (simp; done) | (simp; omega))])); rw [World.cell?_alloc_at _ _ _ _ (by simp)]; rfl)
         have y2 := Kep.all g1 (a := ⟨w.heap.size + 1, 2, none⟩) (v := .int .i32 y.ax) (by (repeat (first | rw [World.cell?_drew] | rw [World.cell?_alloc_past _ _ _ (by first | (simp; done) | (simp; omega))])); rw [World.cell?_alloc_at _ _ _ _ (by simp)]; rfl)
         have y3 := Kep.all g1 (a := ⟨w.heap.size + 1, 3, none⟩) (v := .int .i32 y.ay) (by (repeat (first | rw [World.cell?_drew] | rw [World.cell?_alloc_past _ _ _ (by first | (simp; done) | (simp; omega))])); rw [World.cell?_alloc_at _ _ _ _ (by simp)]; rfl)
         have y4 := Kep.all g1 (a := ⟨w.heap.size + 1, 4, none⟩) (v := .int .i32 y.m) (by (repeat (first | rw [World.cell?_drew] | rw [World.cell?_alloc_past _ _ _ (by first | (simp; done) | (simp; omega))])); rw [World.cell?_alloc_at _ _ _ _ (by simp)]; rfl)
         have y5 := Kep.all g1 (a := ⟨w.heap.size + 1, 5, none⟩) (v := .int .i32 y.o) (by (repeat (first | rw [World.cell?_drew] | rw [World.cell?_alloc_past _ _ _ (by first | (simp; done) | (simp; omega))])); rw [World.cell?_alloc_at _ _ _ _ (by simp)]; rfl)
         have y6 := Kep.all g1 (a := ⟨w.heap.size + 1, 6, none⟩) (v := .int .i32 y.px) (by (repeat (first | rw [World.cell?_drew] | rw [World.cell?_alloc_past _ _ _ (by first | (simp; done) | (simp; omega))])); rw [World.cell?_alloc_at _ _ _ _ (by simp)]; rfl)
         have y7 := Kep.all g1 (a := ⟨w.heap.size + 1, 7, none⟩) (v := .int .i32 y.py) (by (repeat (first | rw [World.cell?_drew] | rw [World.cell?_alloc_past _ _ _ (by first | (simp; done) | (simp; omega))])); rw [World.cell?_alloc_at _ _ _ _ (by simp)]; rfl)
         have y8 := Kep.all g1 (a := ⟨w.heap.size + 1, 8, none⟩) (v := .int .i32 y.vx) (by (repeat (first | rw [World.cell?_drew] | rw [World.cell?_alloc_past _ _ _ (by first | (simp; done) | (simp; omega))])); rw [World.cell?_alloc_at _ _ _ _ (by simp)]; rfl)
         have y9 := Kep.all g1 (a := ⟨w.heap.size + 1, 9, none⟩) (v := .int .i32 y.vy) (by (repeat (first | rw [World.cell?_drew] | rw [World.cell?_alloc_past _ _ _ (by first | (simp; done) | (simp; omega))])); rw [World.cell?_alloc_at _ _ _ _ (by simp)]; rfl)
         have r0 := Kep.all g1 (a := ⟨w.heap.size + 1 + 1, 0, none⟩) (v := .int .u32 0) (by (repeat (first | rw [World.cell?_drew] | rw [World.cell?_alloc_past _ _ _ (by first | (simp; done) | (simp; omega))])); rw [World.cell?_alloc_at _ _ _ _ (by simp)]; rfl)
         have r1 := Kep.all g1 (a := ⟨w.heap.size + 1 + 1, 1, none⟩) (v := .int .u32 0) (by (repeat (first | rw [World.cell?_drew] | rw [World.cell?_alloc_past _ _ _ (by first | (simp; done) | (simp; omega))])); rw [World.cell?_alloc_at _ _ _ _ (by simp)]; rfl)
         have r2 := Kep.all g1 (a := ⟨w.heap.size + 1 + 1, 2, none⟩) (v := .int .i32 0) (by (repeat (first | rw [World.cell?_drew] | rw [World.cell?_alloc_past _ _ _ (by first | (simp; done) | (simp; omega))])); rw [World.cell?_alloc_at _ _ _ _ (by simp)]; rfl)
         have r3 := Kep.all g1 (a := ⟨w.heap.size + 1 + 1, 3, none⟩) (v := .int .i32 0) (by (repeat (first | rw [World.cell?_drew] | rw [World.cell?_alloc_past _ _ _ (by first | (simp; done) | (simp; omega))])); rw [World.cell?_alloc_at _ _ _ _ (by simp)]; rfl)
         have r4 := Kep.all g1 (a := ⟨w.heap.size + 1 + 1, 4, none⟩) (v := .int .i32 0) (by (repeat (first | rw [World.cell?_drew] | rw [World.cell?_alloc_past _ _ _ (by first | (simp; done) | (simp; omega))])); rw [World.cell?_alloc_at _ _ _ _ (by simp)]; rfl)
         have gg := kep_next (kep_more (kep_more (kep_more (Kep.refl _ _) _) _) _) g1
         have sr0 := kep_some g1 (a := ⟨w.heap.size + 1 + 1, 0, none⟩) (by (repeat (first | rw [World.cell?_drew] | rw [World.cell?_alloc_past _ _ _ (by first | (simp; done) | (simp; omega))])); rw [World.cell?_alloc_at _ _ _ _ (by simp)]; rfl)
         have sr1 := kep_some g1 (a := ⟨w.heap.size + 1 + 1, 1, none⟩) (by (repeat (first | rw [World.cell?_drew] | rw [World.cell?_alloc_past _ _ _ (by first | (simp; done) | (simp; omega))])); rw [World.cell?_alloc_at _ _ _ _ (by simp)]; rfl)
         have sr2 := kep_some g1 (a := ⟨w.heap.size + 1 + 1, 2, none⟩) (by (repeat (first | rw [World.cell?_drew] | rw [World.cell?_alloc_past _ _ _ (by first | (simp; done) | (simp; omega))])); rw [World.cell?_alloc_at _ _ _ _ (by simp)]; rfl)
         have sr3 := kep_some g1 (a := ⟨w.heap.size + 1 + 1, 3, none⟩) (by (repeat (first | rw [World.cell?_drew] | rw [World.cell?_alloc_past _ _ _ (by first | (simp; done) | (simp; omega))])); rw [World.cell?_alloc_at _ _ _ _ (by simp)]; rfl)
         have sr4 := kep_some g1 (a := ⟨w.heap.size + 1 + 1, 4, none⟩) (by (repeat (first | rw [World.cell?_drew] | rw [World.cell?_alloc_past _ _ _ (by first | (simp; done) | (simp; omega))])); rw [World.cell?_alloc_at _ _ _ _ (by simp)]; rfl)
         have fr0 := kep_froz g1 (a := ⟨w.heap.size + 1 + 1, 0, none⟩) (by (repeat (first | rw [World.cell?_drew] | rw [World.cell?_alloc_past _ _ _ (by first | (simp; done) | (simp; omega))])); rw [World.cell?_alloc_at _ _ _ _ (by simp)]; rfl) (by (repeat (first | rw [World.frozen?_drew] | rw [World.frozen?_alloc_past _ _ _ (by first | (simp; done) | (simp; omega))])); rw [World.frozen?_alloc_at _ _ _ _ (by simp)])
         have fr1 := kep_froz g1 (a := ⟨w.heap.size + 1 + 1, 1, none⟩) (by (repeat (first | rw [World.cell?_drew] | rw [World.cell?_alloc_past _ _ _ (by first | (simp; done) | (simp; omega))])); rw [World.cell?_alloc_at _ _ _ _ (by simp)]; rfl) (by (repeat (first | rw [World.frozen?_drew] | rw [World.frozen?_alloc_past _ _ _ (by first | (simp; done) | (simp; omega))])); rw [World.frozen?_alloc_at _ _ _ _ (by simp)])
         have fr2 := kep_froz g1 (a := ⟨w.heap.size + 1 + 1, 2, none⟩) (by (repeat (first | rw [World.cell?_drew] | rw [World.cell?_alloc_past _ _ _ (by first | (simp; done) | (simp; omega))])); rw [World.cell?_alloc_at _ _ _ _ (by simp)]; rfl) (by (repeat (first | rw [World.frozen?_drew] | rw [World.frozen?_alloc_past _ _ _ (by first | (simp; done) | (simp; omega))])); rw [World.frozen?_alloc_at _ _ _ _ (by simp)])
         have fr3 := kep_froz g1 (a := ⟨w.heap.size + 1 + 1, 3, none⟩) (by (repeat (first | rw [World.cell?_drew] | rw [World.cell?_alloc_past _ _ _ (by first | (simp; done) | (simp; omega))])); rw [World.cell?_alloc_at _ _ _ _ (by simp)]; rfl) (by (repeat (first | rw [World.frozen?_drew] | rw [World.frozen?_alloc_past _ _ _ (by first | (simp; done) | (simp; omega))])); rw [World.frozen?_alloc_at _ _ _ _ (by simp)])
         have fr4 := kep_froz g1 (a := ⟨w.heap.size + 1 + 1, 4, none⟩) (by (repeat (first | rw [World.cell?_drew] | rw [World.cell?_alloc_past _ _ _ (by first | (simp; done) | (simp; omega))])); rw [World.cell?_alloc_at _ _ _ _ (by simp)]; rfl) (by (repeat (first | rw [World.frozen?_drew] | rw [World.frozen?_alloc_past _ _ _ (by first | (simp; done) | (simp; omega))])); rw [World.frozen?_alloc_at _ _ _ _ (by simp)])
         have zx_w1 : w.heap.size < w1.heap.size := World.block_lt_of_cell? _ _ x0
         have zy_w1 : w.heap.size + 1 < w1.heap.size := World.block_lt_of_cell? _ _ y0
         have zr_w1 : w.heap.size + 1 + 1 < w1.heap.size := World.block_lt_of_cell? _ _ r0)
      | ((with_reducible refine (C2.out _).mono ?_); rintro e w2 ⟨rfl, g2⟩
         replace fr0 := kep_froz g2 (kep_some (kep_more (Kep.refl _ _) _) sr0) (kep_froz (kep_more (Kep.refl _ _) _) sr0 fr0)
         replace sr0 := kep_some g2 (kep_some (kep_more (Kep.refl _ _) _) sr0)
         replace fr1 := kep_froz g2 (kep_some (kep_more (Kep.refl _ _) _) sr1) (kep_froz (kep_more (Kep.refl _ _) _) sr1 fr1)
         replace sr1 := kep_some g2 (kep_some (kep_more (Kep.refl _ _) _) sr1)
         replace fr2 := kep_froz g2 (kep_some (kep_more (Kep.refl _ _) _) sr2) (kep_froz (kep_more (Kep.refl _ _) _) sr2 fr2)
         replace sr2 := kep_some g2 (kep_some (kep_more (Kep.refl _ _) _) sr2)
         replace fr3 := kep_froz g2 (kep_some (kep_more (Kep.refl _ _) _) sr3) (kep_froz (kep_more (Kep.refl _ _) _) sr3 fr3)
         replace sr3 := kep_some g2 (kep_some (kep_more (Kep.refl _ _) _) sr3)
         replace fr4 := kep_froz g2 (kep_some (kep_more (Kep.refl _ _) _) sr4) (kep_froz (kep_more (Kep.refl _ _) _) sr4 fr4)
         replace sr4 := kep_some g2 (kep_some (kep_more (Kep.refl _ _) _) sr4)
         replace x0 := Kep.all g2 (a := ⟨w.heap.size, 0, none⟩) (v := .int .u32 x.k) (Kep.all (kep_more (Kep.refl _ _) _) x0)
         replace x1 := Kep.all g2 (a := ⟨w.heap.size, 1, none⟩) (v := .int .i32 x.r) (Kep.all (kep_more (Kep.refl _ _) _) x1)
         replace x2 := Kep.all g2 (a := ⟨w.heap.size, 2, none⟩) (v := .int .i32 x.ax) (Kep.all (kep_more (Kep.refl _ _) _) x2)
         replace x3 := Kep.all g2 (a := ⟨w.heap.size, 3, none⟩) (v := .int .i32 x.ay) (Kep.all (kep_more (Kep.refl _ _) _) x3)
         replace x4 := Kep.all g2 (a := ⟨w.heap.size, 4, none⟩) (v := .int .i32 x.m) (Kep.all (kep_more (Kep.refl _ _) _) x4)
         replace x5 := Kep.all g2 (a := ⟨w.heap.size, 5, none⟩) (v := .int .i32 x.o) (Kep.all (kep_more (Kep.refl _ _) _) x5)
         replace x6 := Kep.all g2 (a := ⟨w.heap.size, 6, none⟩) (v := .int .i32 x.px) (Kep.all (kep_more (Kep.refl _ _) _) x6)
         replace x7 := Kep.all g2 (a := ⟨w.heap.size, 7, none⟩) (v := .int .i32 x.py) (Kep.all (kep_more (Kep.refl _ _) _) x7)
         replace x8 := Kep.all g2 (a := ⟨w.heap.size, 8, none⟩) (v := .int .i32 x.vx) (Kep.all (kep_more (Kep.refl _ _) _) x8)
         replace x9 := Kep.all g2 (a := ⟨w.heap.size, 9, none⟩) (v := .int .i32 x.vy) (Kep.all (kep_more (Kep.refl _ _) _) x9)
         replace y0 := Kep.all g2 (a := ⟨w.heap.size + 1, 0, none⟩) (v := .int .u32 y.k) (Kep.all (kep_more (Kep.refl _ _) _) y0)
         replace y1 := Kep.all g2 (a := ⟨w.heap.size + 1, 1, none⟩) (v := .int .i32 y.r) (Kep.all (kep_more (Kep.refl _ _) _) y1)
         replace y2 := Kep.all g2 (a := ⟨w.heap.size + 1, 2, none⟩) (v := .int .i32 y.ax) (Kep.all (kep_more (Kep.refl _ _) _) y2)
         replace y3 := Kep.all g2 (a := ⟨w.heap.size + 1, 3, none⟩) (v := .int .i32 y.ay) (Kep.all (kep_more (Kep.refl _ _) _) y3)
         replace y4 := Kep.all g2 (a := ⟨w.heap.size + 1, 4, none⟩) (v := .int .i32 y.m) (Kep.all (kep_more (Kep.refl _ _) _) y4)
         replace y5 := Kep.all g2 (a := ⟨w.heap.size + 1, 5, none⟩) (v := .int .i32 y.o) (Kep.all (kep_more (Kep.refl _ _) _) y5)
         replace y6 := Kep.all g2 (a := ⟨w.heap.size + 1, 6, none⟩) (v := .int .i32 y.px) (Kep.all (kep_more (Kep.refl _ _) _) y6)
         replace y7 := Kep.all g2 (a := ⟨w.heap.size + 1, 7, none⟩) (v := .int .i32 y.py) (Kep.all (kep_more (Kep.refl _ _) _) y7)
         replace y8 := Kep.all g2 (a := ⟨w.heap.size + 1, 8, none⟩) (v := .int .i32 y.vx) (Kep.all (kep_more (Kep.refl _ _) _) y8)
         replace y9 := Kep.all g2 (a := ⟨w.heap.size + 1, 9, none⟩) (v := .int .i32 y.vy) (Kep.all (kep_more (Kep.refl _ _) _) y9)
         replace r0 := Kep.all g2 (a := ⟨w.heap.size + 1 + 1, 0, none⟩) (v := .int .u32 0) (Kep.all (kep_more (Kep.refl _ _) _) r0)
         replace r1 := Kep.all g2 (a := ⟨w.heap.size + 1 + 1, 1, none⟩) (v := .int .u32 0) (Kep.all (kep_more (Kep.refl _ _) _) r1)
         replace r2 := Kep.all g2 (a := ⟨w.heap.size + 1 + 1, 2, none⟩) (v := .int .i32 0) (Kep.all (kep_more (Kep.refl _ _) _) r2)
         replace r3 := Kep.all g2 (a := ⟨w.heap.size + 1 + 1, 3, none⟩) (v := .int .i32 0) (Kep.all (kep_more (Kep.refl _ _) _) r3)
         replace r4 := Kep.all g2 (a := ⟨w.heap.size + 1 + 1, 4, none⟩) (v := .int .i32 0) (Kep.all (kep_more (Kep.refl _ _) _) r4)
         have s0 := Kep.all g2 (a := ⟨w1.heap.size, 0, none⟩) (v := .int .i32 a) (by (repeat (first | rw [World.cell?_drew] | rw [World.cell?_alloc_past _ _ _ (by first | (simp; done) | (simp; omega))])); rw [World.cell?_alloc_at _ _ _ _ (by simp)]; rfl)
         have s1 := Kep.all g2 (a := ⟨w1.heap.size, 1, none⟩) (v := .int .i32 b) (by (repeat (first | rw [World.cell?_drew] | rw [World.cell?_alloc_past _ _ _ (by first | (simp; done) | (simp; omega))])); rw [World.cell?_alloc_at _ _ _ _ (by simp)]; rfl)
         have s2 := Kep.all g2 (a := ⟨w1.heap.size, 2, none⟩) (v := .int .i32 c) (by (repeat (first | rw [World.cell?_drew] | rw [World.cell?_alloc_past _ _ _ (by first | (simp; done) | (simp; omega))])); rw [World.cell?_alloc_at _ _ _ _ (by simp)]; rfl)
         have s3 := Kep.all g2 (a := ⟨w1.heap.size, 3, none⟩) (v := .int .i32 d) (by (repeat (first | rw [World.cell?_drew] | rw [World.cell?_alloc_past _ _ _ (by first | (simp; done) | (simp; omega))])); rw [World.cell?_alloc_at _ _ _ _ (by simp)]; rfl)
         replace gg := kep_next (kep_more gg _) g2
         have zx_w2 : w.heap.size < w2.heap.size := World.block_lt_of_cell? _ _ x0
         have zy_w2 : w.heap.size + 1 < w2.heap.size := World.block_lt_of_cell? _ _ y0
         have zr_w2 : w.heap.size + 1 + 1 < w2.heap.size := World.block_lt_of_cell? _ _ r0
         have zs_w2 : w1.heap.size < w2.heap.size := World.block_lt_of_cell? _ _ s0))
    exact bodyPost_ret (v := .tuple #[.agg #[.int .u32 0, .int .u32 0, .int .i32 0, .int .i32 0, .int .i32 0], .bool false]) (by simp [results, Tryz.results18, go_sem, r0, r1, r2, r3, r4]) rfl ⟨rfl, by repeat first | exact gg | refine kep_set ?_ (by first | (simp; done) | (simp; omega)) _⟩
set_option maxRecDepth 100000 in
set_option maxHeartbeats 4000000 in
theorem kro_gt {x y : Bd} {v : Ct} {z : Bool} (C1 : Hid (KRo y x v z)) (hk : y.k < x.k) : KRo x y v z := fun w => by
  have q0 : decide (y.k < x.k) = true := decide_eq_true hk
  obtain ⟨v0, v1, v2, v3, v4⟩ := v
  dsimp only at C1 ⊢
  clear hk
  go_enter Tryz.func18, Tryz.ntmps18
  go_wp2_with (first
    | ((with_reducible refine (C1.out _).mono ?_); rintro e w1 ⟨rfl, g1⟩
       have x0 := Kep.all g1 (a := ⟨w.heap.size, 0, none⟩) (v := .int .u32 x.k) (by (repeat (first | rw [World.cell?_drew] | rw [World.cell?_alloc_past _ _ _ (by first | (simp; done) | (simp; omega))])); rw [World.cell?_alloc_at _ _ _ _ (by simp)]; rfl)
       have x1 := Kep.all g1 (a := ⟨w.heap.size, 1, none⟩) (v := .int .i32 x.r) (by (repeat (first | rw [World.cell?_drew] | rw [World.cell?_alloc_past _ _ _ (by first | (simp; done) | (simp; omega))])); rw [World.cell?_alloc_at _ _ _ _ (by simp)]; rfl)
       have x2 := Kep.all g1 (a := ⟨w.heap.size, 2, none⟩) (v := .int .i32 x.ax) (by (repeat (first | rw [World.cell?_drew] | rw [World.cell?_alloc_past _ _ _ (by first | (simp; done) | (simp; omega))])); rw [World.cell?_alloc_at _ _ _ _ (by simp)]; rfl)
       have x3 := Kep.all g1 (a := ⟨w.heap.size, 3, none⟩) (v := .int .i32 x.ay) (by (repeat (first | rw [World.cell?_drew] | rw [World.cell?_alloc_past _ _ _ (by first | (simp; done) | (simp; omega))])); rw [World.cell?_alloc_at _ _ _ _ (by simp)]; rfl)
       have x4 := Kep.all g1 (a := ⟨w.heap.size, 4, none⟩) (v := .int .i32 x.m) (by (repeat (first | rw [World.cell?_drew] | rw [World.cell?_alloc_past _ _ _ (by first | (simp; done) | (simp; omega))])); rw [World.cell?_alloc_at _ _ _ _ (by simp)]; rfl)
       have x5 := Kep.all g1 (a := ⟨w.heap.size, 5, none⟩) (v := .int .i32 x.o) (by (repeat (first | rw [World.cell?_drew] | rw [World.cell?_alloc_past _ _ _ (by first | (simp; done) | (simp; omega))])); rw [World.cell?_alloc_at _ _ _ _ (by simp)]; rfl)
       have x6 := Kep.all g1 (a := ⟨w.heap.size, 6, none⟩) (v := .int .i32 x.px) (by (repeat (first | rw [World.cell?_drew] | rw [World.cell?_alloc_past _ _ _ (by first | (simp; done) | (simp; omega))])); rw [World.cell?_alloc_at _ _ _ _ (by simp)]; rfl)
       have x7 := Kep.all g1 (a := ⟨w.heap.size, 7, none⟩) (v := .int .i32 x.py) (by (repeat (first | rw [World.cell?_drew] | rw [World.cell?_alloc_past _ _ _ (by first | (simp; done) | (simp; omega))])); rw [World.cell?_alloc_at _ _ _ _ (by simp)]; rfl)
       have x8 := Kep.all g1 (a := ⟨w.heap.size, 8, none⟩) (v := .int .i32 x.vx) (by (repeat (first | rw [World.cell?_drew] | rw [World.cell?_alloc_past _ _ _ (by first | (simp; done) | (simp; omega))])); rw [World.cell?_alloc_at _ _ _ _ (by simp)]; rfl)
       have x9 := Kep.all g1 (a := ⟨w.heap.size, 9, none⟩) (v := .int .i32 x.vy) (by (repeat (first | rw [World.cell?_drew] | rw [World.cell?_alloc_past _ _ _ (by first | (simp; done) | (simp; omega))])); rw [World.cell?_alloc_at _ _ _ _ (by simp)]; rfl)
       have y0 := Kep.all g1 (a := ⟨w.heap.size + 1, 0, none⟩) (v := .int .u32 y.k) (by (repeat (first | rw [World.cell?_drew] | rw [World.cell?_alloc_past _ _ _ (by first | (simp; done) | (simp; omega))])); rw [World.cell?_alloc_at _ _ _ _ (by simp)]; rfl)
       have y1 := Kep.all g1 (a := ⟨w.heap.size + 1, 1, none⟩) (v := .int .i32 y.r) (by (repeat (first | rw [World.cell?_drew] | rw [World.cell?_alloc_past _ _ _ (by first | (simp; done) | (simp; omega))])); rw [World.cell?_alloc_at _ _ _ _ (by simp)]; rfl)
       have y2 := Kep.all g1 (a := ⟨w.heap.size + 1, 2, none⟩) (v := .int .i32 y.ax) (by (repeat (first | rw [World.cell?_drew] | rw [World.cell?_alloc_past _ _ _ (by first | (simp; done) | (simp; omega))])); rw [World.cell?_alloc_at _ _ _ _ (by simp)]; rfl)
       have y3 := Kep.all g1 (a := ⟨w.heap.size + 1, 3, none⟩) (v := .int .i32 y.ay) (by (repeat (first | rw [World.cell?_drew] | rw [World.cell?_alloc_past _ _ _ (by first | (simp; done) | (simp; omega))])); rw [World.cell?_alloc_at _ _ _ _ (by simp)]; rfl)
       have y4 := Kep.all g1 (a := ⟨w.heap.size + 1, 4, none⟩) (v := .int .i32 y.m) (by (repeat (first | rw [World.cell?_drew] | rw [World.cell?_alloc_past _ _ _ (by first | (simp; done) | (simp; omega))])); rw [World.cell?_alloc_at _ _ _ _ (by simp)]; rfl)
       have y5 := Kep.all g1 (a := ⟨w.heap.size + 1, 5, none⟩) (v := .int .i32 y.o) (by (repeat (first | rw [World.cell?_drew] | rw [World.cell?_alloc_past _ _ _ (by first | (simp; done) | (simp; omega))])); rw [World.cell?_alloc_at _ _ _ _ (by simp)]; rfl)
       have y6 := Kep.all g1 (a := ⟨w.heap.size + 1, 6, none⟩) (v := .int .i32 y.px) (by (repeat (first | rw [World.cell?_drew] | rw [World.cell?_alloc_past _ _ _ (by first | (simp; done) | (simp; omega))])); rw [World.cell?_alloc_at _ _ _ _ (by simp)]; rfl)
       have y7 := Kep.all g1 (a := ⟨w.heap.size + 1, 7, none⟩) (v := .int .i32 y.py) (by (repeat (first | rw [World.cell?_drew] | rw [World.cell?_alloc_past _ _ _ (by first | (simp; done) | (simp; omega))])); rw [World.cell?_alloc_at _ _ _ _ (by simp)]; rfl)
       have y8 := Kep.all g1 (a := ⟨w.heap.size + 1, 8, none⟩) (v := .int .i32 y.vx) (by (repeat (first | rw [World.cell?_drew] | rw [World.cell?_alloc_past _ _ _ (by first | (simp; done) | (simp; omega))])); rw [World.cell?_alloc_at _ _ _ _ (by simp)]; rfl)
       have y9 := Kep.all g1 (a := ⟨w.heap.size + 1, 9, none⟩) (v := .int .i32 y.vy) (by (repeat (first | rw [World.cell?_drew] | rw [World.cell?_alloc_past _ _ _ (by first | (simp; done) | (simp; omega))])); rw [World.cell?_alloc_at _ _ _ _ (by simp)]; rfl)
       have r0 := Kep.all g1 (a := ⟨w.heap.size + 1 + 1, 0, none⟩) (v := .int .u32 0) (by (repeat (first | rw [World.cell?_drew] | rw [World.cell?_alloc_past _ _ _ (by first | (simp; done) | (simp; omega))])); rw [World.cell?_alloc_at _ _ _ _ (by simp)]; rfl)
       have r1 := Kep.all g1 (a := ⟨w.heap.size + 1 + 1, 1, none⟩) (v := .int .u32 0) (by (repeat (first | rw [World.cell?_drew] | rw [World.cell?_alloc_past _ _ _ (by first | (simp; done) | (simp; omega))])); rw [World.cell?_alloc_at _ _ _ _ (by simp)]; rfl)
       have r2 := Kep.all g1 (a := ⟨w.heap.size + 1 + 1, 2, none⟩) (v := .int .i32 0) (by (repeat (first | rw [World.cell?_drew] | rw [World.cell?_alloc_past _ _ _ (by first | (simp; done) | (simp; omega))])); rw [World.cell?_alloc_at _ _ _ _ (by simp)]; rfl)
       have r3 := Kep.all g1 (a := ⟨w.heap.size + 1 + 1, 3, none⟩) (v := .int .i32 0) (by (repeat (first | rw [World.cell?_drew] | rw [World.cell?_alloc_past _ _ _ (by first | (simp; done) | (simp; omega))])); rw [World.cell?_alloc_at _ _ _ _ (by simp)]; rfl)
       have r4 := Kep.all g1 (a := ⟨w.heap.size + 1 + 1, 4, none⟩) (v := .int .i32 0) (by (repeat (first | rw [World.cell?_drew] | rw [World.cell?_alloc_past _ _ _ (by first | (simp; done) | (simp; omega))])); rw [World.cell?_alloc_at _ _ _ _ (by simp)]; rfl)
       have gg := kep_next (kep_more (kep_more (kep_more (Kep.refl _ _) _) _) _) g1
       have sr0 := kep_some g1 (a := ⟨w.heap.size + 1 + 1, 0, none⟩) (by (repeat (first | rw [World.cell?_drew] | rw [World.cell?_alloc_past _ _ _ (by first | (simp; done) | (simp; omega))])); rw [World.cell?_alloc_at _ _ _ _ (by simp)]; rfl)
       have sr1 := kep_some g1 (a := ⟨w.heap.size + 1 + 1, 1, none⟩) (by (repeat (first | rw [World.cell?_drew] | rw [World.cell?_alloc_past _ _ _ (by first | (simp; done) | (simp; omega))])); rw [World.cell?_alloc_at _ _ _ _ (by simp)]; rfl)
       have sr2 := kep_some g1 (a := ⟨w.heap.size + 1 + 1, 2, none⟩) (by (repeat (first | rw [World.cell?_drew] | rw [World.cell?_alloc_past _ _ _ (by first | (simp; done) | (simp; omega))])); rw [World.cell?_alloc_at _ _ _ _ (by simp)]; rfl)
       have sr3 := kep_some g1 (a := ⟨w.heap.size + 1 + 1, 3, none⟩) (by (repeat (first | rw [World.cell?_drew] | rw [World.cell?_alloc_past _ _ _ (by first | (simp; done) | (simp; omega))])); rw [World.cell?_alloc_at _ _ _ _ (by simp)]; rfl)
       have sr4 := kep_some g1 (a := ⟨w.heap.size + 1 + 1, 4, none⟩) (by (repeat (first | rw [World.cell?_drew] | rw [World.cell?_alloc_past _ _ _ (by first | (simp; done) | (simp; omega))])); rw [World.cell?_alloc_at _ _ _ _ (by simp)]; rfl)
       have fr0 := kep_froz g1 (a := ⟨w.heap.size + 1 + 1, 0, none⟩) (by (repeat (first | rw [World.cell?_drew] | rw [World.cell?_alloc_past _ _ _ (by first | (simp; done) | (simp; omega))])); rw [World.cell?_alloc_at _ _ _ _ (by simp)]; rfl) (by (repeat (first | rw [World.frozen?_drew] | rw [World.frozen?_alloc_past _ _ _ (by first | (simp; done) | (simp; omega))])); rw [World.frozen?_alloc_at _ _ _ _ (by simp)])
       have fr1 := kep_froz g1 (a := ⟨w.heap.size + 1 + 1, 1, none⟩) (by (repeat (first | rw [World.cell?_drew] | rw [World.cell?_alloc_past _ _ _ (by first | (simp; done) | (simp; omega))])); rw [World.cell?_alloc_at _ _ _ _ (by simp)]; rfl) (by (repeat (first | rw [World.frozen?_drew] | rw [World.frozen?_alloc_past _ _ _ (by first | (simp; done) | (simp; omega))])); rw [World.frozen?_alloc_at _ _ _ _ (by simp)])
       have fr2 := kep_froz g1 (a := ⟨w.heap.size + 1 + 1, 2, none⟩) (by (repeat (first | rw [World.cell?_drew] | rw [World.cell?_alloc_past _ _ _ (by first | (simp; done) | (simp; omega))])); rw [World.cell?_alloc_at _ _ _ _ (by simp)]; rfl) (by (repeat (first | rw [World.frozen?_drew] | rw [World.frozen?_alloc_past _ _ _ (by first | (simp; done) | (simp; omega))])); rw [World.frozen?_alloc_at _ _ _ _ (by simp)])
       have fr3 := kep_froz g1 (a := ⟨w.heap.size + 1 + 1, 3, none⟩) (by (repeat (first | rw [World.cell?_drew] | rw [World.cell?_alloc_past _ _ _ (by first | (simp; done) | (simp; omega))])); rw [World.cell?_alloc_at _ _ _ _ (by simp)]; rfl) (by (repeat (first | rw [World.frozen?_drew] | rw [World.frozen?_alloc_past _ _ _ (by first | (simp; done) | (simp; omega))])); rw [World.frozen?_alloc_at _ _ _ _ (by simp)])
       have fr4 := kep_froz g1 (a := ⟨w.heap.size + 1 + 1, 4, none⟩) (by (repeat (first | rw [World.cell?_drew] | rw [World.cell?_alloc_past _ _ _ (by first | (simp; done) | (simp; omega))])); rw [World.cell?_alloc_at _ _ _ _ (by simp)]; rfl) (by (repeat (first | rw [World.frozen?_drew] | rw [World.frozen?_alloc_past _ _ _ (by first | (simp; done) | (simp; omega))])); rw [World.frozen?_alloc_at _ _ _ _ (by simp)])
       have zx_w1 : w.heap.size < w1.heap.size := World.block_lt_of_cell? _ _ x0
       have zy_w1 : w.heap.size + 1 < w1.heap.size := World.block_lt_of_cell? _ _ y0
       have zr_w1 : w.heap.size + 1 + 1 < w1.heap.size := World.block_lt_of_cell? _ _ r0))
  exact bodyPost_ret (v := .tuple #[.agg #[.int .u32 v0, .int .u32 v1, .int .i32 v2, .int .i32 v3, .int .i32 v4], .bool z]) (by simp [results, Tryz.results18, go_sem, r0, r1, r2, r3, r4]) rfl ⟨rfl, by repeat first | exact gg | refine kep_set ?_ (by first | (simp; done) | (simp; omega)) _⟩
/-- The reference's Of, for whichever order. -/
theorem kro {x y : Bd} (hx : okC x) (hy : okC y) (hk : x.k ≠ y.k) : KRo x y (conV (lowB x y) (higB x y)) (tchB (lowB x y) (higB x y)) := by
  unfold lowB higB
  by_cases c : y.k < x.k
  · rw [if_pos c, if_pos c]
    exact kro_gt (Lib.hid (kro_lt hy hx c)) c
  · rw [if_neg c, if_neg c]
    exact kro_lt hx hy (by omega)
end Go.Proofs.YtangalkbjochjaaGreatDoor
