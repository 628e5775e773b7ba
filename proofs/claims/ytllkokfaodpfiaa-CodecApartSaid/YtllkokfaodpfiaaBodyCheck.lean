/-
  Package body: Check.
-/
import Derived.Test.YtllkokfaodpfiaaBodyWithin
namespace Go.Proofs.Ytllkokfaodpfiaa
open Go.RowKit Go.Lib

/-- The first condition that does not hold, as an error. -/
def fst6 (c0 c1 c2 c3 c4 c5 : Bool) : Int := bif c0 then bif c1 then bif c2 then bif c3 then bif c4 then bif c5 then 0 else 9 else 8 else 7 else 6 else 5 else 4
def In32 (c : Bool) (n lo hi : Int) : Prop := (decide (lo ≤ n) && decide (n ≤ hi)) = c
def In64 (c : Bool) (x y nl l : Int) : Prop := ((decide (nl ≤ x) && decide (x ≤ l)) && (decide (nl ≤ y) && decide (y ≤ l))) = c

/-- The array of conditions lies in block B. -/
def Laid (w0 : World) (c0 c1 c2 c3 c4 c5 : Bool) (s : Value) (w : World) : Prop := ∃ (B : Nat) (v0 v1 v2 v3 v4 v5 : Value), s = .pointer (some ⟨B, 0, none⟩) ∧
  (w.cell? ⟨B, 0, none⟩ = some (.int .i64 4) ∧ w.cell? ⟨B, 1, none⟩ = some v0 ∧ w.cell? ⟨B, 2, none⟩ = some (.int .i64 5) ∧ w.cell? ⟨B, 3, none⟩ = some v1 ∧ w.cell? ⟨B, 4, none⟩ = some (.int .i64 6) ∧ w.cell? ⟨B, 5, none⟩ = some v2 ∧ w.cell? ⟨B, 6, none⟩ = some (.int .i64 7) ∧ w.cell? ⟨B, 7, none⟩ = some v3 ∧ w.cell? ⟨B, 8, none⟩ = some (.int .i64 8) ∧ w.cell? ⟨B, 9, none⟩ = some v4 ∧ w.cell? ⟨B, 10, none⟩ = some (.int .i64 9) ∧ w.cell? ⟨B, 11, none⟩ = some v5) ∧
  (Btw 0 w v0 c0 ∧ Wth 0 w v1 c1 ∧ Btw 0 w v2 c2 ∧ Btw 0 w v3 c3 ∧ Wth 0 w v4 c4 ∧ Wth 0 w v5 c5) ∧ Grown w0 w

theorem box_kept {w w' : World} {k r ax ay m o px py vx vy : Int} (g : Grown (w.alloc (.cells #[.int .u32 k, .int .i32 r, .int .i32 ax, .int .i32 ay, .int .i32 m, .int .i32 o, .int .i32 px, .int .i32 py, .int .i32 vx, .int .i32 vy] 46)) w') : w'.cell? ⟨w.heap.size, 1, none⟩ = some (.int .i32 r) ∧ w'.cell? ⟨w.heap.size, 2, none⟩ = some (.int .i32 ax) ∧ w'.cell? ⟨w.heap.size, 3, none⟩ = some (.int .i32 ay) ∧ w'.cell? ⟨w.heap.size, 4, none⟩ = some (.int .i32 m) ∧ w'.cell? ⟨w.heap.size, 5, none⟩ = some (.int .i32 o) ∧ w'.cell? ⟨w.heap.size, 6, none⟩ = some (.int .i32 px) ∧ w'.cell? ⟨w.heap.size, 7, none⟩ = some (.int .i32 py) ∧ w'.cell? ⟨w.heap.size, 8, none⟩ = some (.int .i32 vx) ∧ w'.cell? ⟨w.heap.size, 9, none⟩ = some (.int .i32 vy) ∧ Grown (w.alloc (.cells #[.int .u32 k, .int .i32 r, .int .i32 ax, .int .i32 ay, .int .i32 m, .int .i32 o, .int .i32 px, .int .i32 py, .int .i32 vx, .int .i32 vy] 46)) w' :=
  ⟨kept_cell g (by rw [World.cell?_alloc_at _ _ _ _ rfl]; rfl), kept_cell g (by rw [World.cell?_alloc_at _ _ _ _ rfl]; rfl), kept_cell g (by rw [World.cell?_alloc_at _ _ _ _ rfl]; rfl), kept_cell g (by rw [World.cell?_alloc_at _ _ _ _ rfl]; rfl), kept_cell g (by rw [World.cell?_alloc_at _ _ _ _ rfl]; rfl), kept_cell g (by rw [World.cell?_alloc_at _ _ _ _ rfl]; rfl), kept_cell g (by rw [World.cell?_alloc_at _ _ _ _ rfl]; rfl), kept_cell g (by rw [World.cell?_alloc_at _ _ _ _ rfl]; rfl), kept_cell g (by rw [World.cell?_alloc_at _ _ _ _ rfl]; rfl), g⟩

/-- What is known of a world behind a call, as rules of the walk. -/
theorem grules {W w1 : World} (g : Grown W w1) : (∀ b o, b < W.heap.size → w1.cell? ⟨b, o, none⟩ = W.cell? ⟨b, o, none⟩) ∧ (∀ b o, w1.frozen? ⟨b, o, none⟩ = W.frozen? ⟨b, o, none⟩) ∧ (∀ b, b < W.heap.size → b < w1.heap.size) ∧ W.heap.size ≤ w1.heap.size :=
  ⟨(gcell g).1, (gcell g).2.1, fun _ h => Nat.lt_of_lt_of_le h (gcell g).2.2, (gcell g).2.2⟩

/-- One step from world to world: a Grown under a name of its own. -/
def Stp (w w' : World) : Prop := Grown w w'
theorem Keeps.step {B : Nat} {w w' w'' : World} (h : Keeps B w w') (g : Stp w' w'') : Keeps B w w'' := h.grown g

theorem size_of {w w1 : World} {c : Array Value} {t : TypeId} (g : Grown (w.alloc (.cells c t)) w1) : w.heap.size + 1 ≤ w1.heap.size := by
  have := g.2.2
  simpa using this

set_option maxRecDepth 100000 in
set_option maxHeartbeats 4000000 in
theorem check_ex (k r ax ay m o px py vx vy : Int) (c0 c1 c2 c3 c4 c5 : Bool) (h0 : In32 c0 r 4096 4194304) (h1 : In64 c1 ax ay (-4194304) 4194304) (h2 : In32 c2 m 0 1048576) (h3 : In32 c3 o 0 65536)
    (h4 : In64 c4 px py (-1073741824) 1073741824) (h5 : In64 c5 vx vy (-16777216) 16777216) (w : World) :
    Calls Try.prog 33 #[.agg #[.int .u32 k, .int .i32 r, .int .i32 ax, .int .i32 ay, .int .i32 m, .int .i32 o, .int .i32 px, .int .i32 py, .int .i32 vx, .int .i32 vy]] w fun e w' => e = .returned (.int .i64 (fst6 c0 c1 c2 c3 c4 c5)) ∧ Grown w w' := by
  have C0 := Lib.hid (between_any r 4096 4194304 c0 h0)
  have C1 := Lib.hid (within_any ax ay 4194304 (-4194304) c1 (by decide) h1)
  have C2 := Lib.hid (between_any m 0 1048576 c2 h2)
  have C3 := Lib.hid (between_any o 0 65536 c3 h3)
  have C4 := Lib.hid (within_any px py 1073741824 (-1073741824) c4 (by decide) h4)
  have C5 := Lib.hid (within_any vx vy 16777216 (-16777216) c5 (by decide) h5)
  clear h0 h1 h2 h3 h4 h5
  have hsf := fun (a : Addr) (f : Nat) (c : Array Value) (w : World) => run_store Try.prog w a (.func (.func f) #[] c) .plain rfl
  go_enter Try.func33, Try.ntmps33
  go_wp2_with fail
  go_cut [3] (Laid w c0 c1 c2 c3 c4 c5)
  case first =>
    go_region_held3 (fun w' => w'.cell? ⟨w.heap.size, 1, none⟩ = some (.int .i32 r) ∧ w'.cell? ⟨w.heap.size, 2, none⟩ = some (.int .i32 ax) ∧ w'.cell? ⟨w.heap.size, 3, none⟩ = some (.int .i32 ay) ∧ w'.cell? ⟨w.heap.size, 4, none⟩ = some (.int .i32 m) ∧ w'.cell? ⟨w.heap.size, 5, none⟩ = some (.int .i32 o) ∧ w'.cell? ⟨w.heap.size, 6, none⟩ = some (.int .i32 px) ∧ w'.cell? ⟨w.heap.size, 7, none⟩ = some (.int .i32 py) ∧ w'.cell? ⟨w.heap.size, 8, none⟩ = some (.int .i32 vx) ∧ w'.cell? ⟨w.heap.size, 9, none⟩ = some (.int .i32 vy) ∧ Grown (w.alloc (.cells #[.int .u32 k, .int .i32 r, .int .i32 ax, .int .i32 ay, .int .i32 m, .int .i32 o, .int .i32 px, .int .i32 py, .int .i32 vx, .int .i32 vy] 46)) w')
      (first
        | (with_reducible assumption)
        | (with_reducible exact box_kept gW)
        | (refine box_kept ?_; (repeat (first | (with_reducible exact gW) | (with_reducible exact Grown.refl _) | (with_reducible refine Grown.drew ?_) | (with_reducible refine Grown.alloc ?_ _ _) | ((with_reducible refine Grown.setCell ?_ ?_ _); case refine_2 => (first | omega | (simp; done) | (simp; omega))))); done))
      (first
        | ((with_reducible refine (C0.out _).mono ?_); rintro e w1 ⟨_, _, _, rfl, b0, g⟩; replace b0 := Lib.hid b0; have gW : Grown (w.alloc (.cells #[.int .u32 k, .int .i32 r, .int .i32 ax, .int .i32 ay, .int .i32 m, .int .i32 o, .int .i32 px, .int .i32 py, .int .i32 vx, .int .i32 vy] 46)) w1 := grown_trans (by go_split_ands; assumption) g; have gy := size_of gW; (first | (with_reducible (have gA := grown_trans gA g; obtain ⟨gc, gf, gl, gz⟩ := grules gA)) | (have gA := g; obtain ⟨gc, gf, gl, gz⟩ := grules gA)); (try simp only [World.size_alloc, World.size_drew] at gz); have gs := g.2.2; (try simp only [World.size_alloc] at gs); have gp : Stp _ w1 := g)
        | ((with_reducible refine (C1.out _).mono ?_); rintro e w1 ⟨_, _, rfl, b1, g⟩; replace b1 := Lib.hid b1; have gW : Grown (w.alloc (.cells #[.int .u32 k, .int .i32 r, .int .i32 ax, .int .i32 ay, .int .i32 m, .int .i32 o, .int .i32 px, .int .i32 py, .int .i32 vx, .int .i32 vy] 46)) w1 := grown_trans (by go_split_ands; assumption) g; have gy := size_of gW; (first | (with_reducible (have gA := grown_trans gA g; obtain ⟨gc, gf, gl, gz⟩ := grules gA)) | (have gA := g; obtain ⟨gc, gf, gl, gz⟩ := grules gA)); (try simp only [World.size_alloc, World.size_drew] at gz); have gs := g.2.2; (try simp only [World.size_alloc] at gs); have gp : Stp _ w1 := g)
        | ((with_reducible refine (C2.out _).mono ?_); rintro e w1 ⟨_, _, _, rfl, b2, g⟩; replace b2 := Lib.hid b2; have gW : Grown (w.alloc (.cells #[.int .u32 k, .int .i32 r, .int .i32 ax, .int .i32 ay, .int .i32 m, .int .i32 o, .int .i32 px, .int .i32 py, .int .i32 vx, .int .i32 vy] 46)) w1 := grown_trans (by go_split_ands; assumption) g; have gy := size_of gW; (first | (with_reducible (have gA := grown_trans gA g; obtain ⟨gc, gf, gl, gz⟩ := grules gA)) | (have gA := g; obtain ⟨gc, gf, gl, gz⟩ := grules gA)); (try simp only [World.size_alloc, World.size_drew] at gz); have gs := g.2.2; (try simp only [World.size_alloc] at gs); have gp : Stp _ w1 := g)
        | ((with_reducible refine (C3.out _).mono ?_); rintro e w1 ⟨_, _, _, rfl, b3, g⟩; replace b3 := Lib.hid b3; have gW : Grown (w.alloc (.cells #[.int .u32 k, .int .i32 r, .int .i32 ax, .int .i32 ay, .int .i32 m, .int .i32 o, .int .i32 px, .int .i32 py, .int .i32 vx, .int .i32 vy] 46)) w1 := grown_trans (by go_split_ands; assumption) g; have gy := size_of gW; (first | (with_reducible (have gA := grown_trans gA g; obtain ⟨gc, gf, gl, gz⟩ := grules gA)) | (have gA := g; obtain ⟨gc, gf, gl, gz⟩ := grules gA)); (try simp only [World.size_alloc, World.size_drew] at gz); have gs := g.2.2; (try simp only [World.size_alloc] at gs); have gp : Stp _ w1 := g)
        | ((with_reducible refine (C4.out _).mono ?_); rintro e w1 ⟨_, _, rfl, b4, g⟩; replace b4 := Lib.hid b4; have gW : Grown (w.alloc (.cells #[.int .u32 k, .int .i32 r, .int .i32 ax, .int .i32 ay, .int .i32 m, .int .i32 o, .int .i32 px, .int .i32 py, .int .i32 vx, .int .i32 vy] 46)) w1 := grown_trans (by go_split_ands; assumption) g; have gy := size_of gW; (first | (with_reducible (have gA := grown_trans gA g; obtain ⟨gc, gf, gl, gz⟩ := grules gA)) | (have gA := g; obtain ⟨gc, gf, gl, gz⟩ := grules gA)); (try simp only [World.size_alloc, World.size_drew] at gz); have gs := g.2.2; (try simp only [World.size_alloc] at gs); have gp : Stp _ w1 := g)
        | ((with_reducible refine (C5.out _).mono ?_); rintro e w1 ⟨_, _, rfl, b5, g⟩; replace b5 := Lib.hid b5; have gW : Grown (w.alloc (.cells #[.int .u32 k, .int .i32 r, .int .i32 ax, .int .i32 ay, .int .i32 m, .int .i32 o, .int .i32 px, .int .i32 py, .int .i32 vx, .int .i32 vy] 46)) w1 := grown_trans (by go_split_ands; assumption) g; have gy := size_of gW; (first | (with_reducible (have gA := grown_trans gA g; obtain ⟨gc, gf, gl, gz⟩ := grules gA)) | (have gA := g; obtain ⟨gc, gf, gl, gz⟩ := grules gA)); (try simp only [World.size_alloc, World.size_drew] at gz); have gs := g.2.2; (try simp only [World.size_alloc] at gs); have gp : Stp _ w1 := g))
    all_goals go_wp2_with fail
    all_goals go_meet
    all_goals (
      refine' ⟨_, _, _, _, _, _, _, rfl, ⟨?_, ?_, ?_, ?_, ?_, ?_, ?_, ?_, ?_, ?_, ?_, ?_⟩, ⟨b0.out.keeps ?_, b1.out.keeps ?_, b2.out.keeps ?_, b3.out.keeps ?_, b4.out.keeps ?_, b5.out.keeps ?_⟩, grown_trans ((Grown.refl w).alloc _ _) (by go_split_ands; assumption)⟩
      all_goals (first
        | (with_reducible (repeat (first | exact Keeps.refl _ _ | refine Keeps.drew ?_ | refine Keeps.alloc ?_ _ _ | refine Keeps.step ?_ (by assumption) | ((refine Keeps.below ?_ ?_); case refine_2 => (first | omega | (simp; done) | (simp; omega))) | ((refine Keeps.above ?_ ?_); case refine_2 => (first | omega | (simp; done) | (simp; omega)))))
           done)
        | go_simp))
  case rest =>
    obtain ⟨B, v0, v1, v2, v3, v4, v5, rfl, ⟨k0, k1, k2, k3, k4, k5, k6, k7, k8, k9, k10, k11⟩, ⟨d0, d1, d2, d3, d4, d5⟩, gw⟩ := hcut
    obtain ⟨x0, y0, z0, rfl, _⟩ := d0.calls
    obtain ⟨x1, y1, rfl, _⟩ := d1.calls
    obtain ⟨x2, y2, z2, rfl, _⟩ := d2.calls
    obtain ⟨x3, y3, z3, rfl, _⟩ := d3.calls
    obtain ⟨x4, y4, rfl, _⟩ := d4.calls
    obtain ⟨x5, y5, rfl, _⟩ := d5.calls
    have D0 : Hid (∀ w', Grown wc w' → Calls Try.prog 37 #[.pointer (some x0), .pointer (some y0), .pointer (some z0)] w' fun e w'' => e = .returned (.bool c0) ∧ w' = w'') := Lib.hid fun w' g => by
      obtain ⟨_, _, _, he, h⟩ := (d0.kept g).calls
      cases he; exact h
    clear d0
    have D1 : Hid (∀ w', Grown wc w' → Calls Try.prog 38 #[.pointer (some x1), .pointer (some y1)] w' fun e w'' => e = .returned (.bool c1) ∧ w' = w'') := Lib.hid fun w' g => by
      obtain ⟨_, _, he, h⟩ := (d1.kept g).calls
      cases he; exact h
    clear d1
    have D2 : Hid (∀ w', Grown wc w' → Calls Try.prog 37 #[.pointer (some x2), .pointer (some y2), .pointer (some z2)] w' fun e w'' => e = .returned (.bool c2) ∧ w' = w'') := Lib.hid fun w' g => by
      obtain ⟨_, _, _, he, h⟩ := (d2.kept g).calls
      cases he; exact h
    clear d2
    have D3 : Hid (∀ w', Grown wc w' → Calls Try.prog 37 #[.pointer (some x3), .pointer (some y3), .pointer (some z3)] w' fun e w'' => e = .returned (.bool c3) ∧ w' = w'') := Lib.hid fun w' g => by
      obtain ⟨_, _, _, he, h⟩ := (d3.kept g).calls
      cases he; exact h
    clear d3
    have D4 : Hid (∀ w', Grown wc w' → Calls Try.prog 38 #[.pointer (some x4), .pointer (some y4)] w' fun e w'' => e = .returned (.bool c4) ∧ w' = w'') := Lib.hid fun w' g => by
      obtain ⟨_, _, he, h⟩ := (d4.kept g).calls
      cases he; exact h
    clear d4
    have D5 : Hid (∀ w', Grown wc w' → Calls Try.prog 38 #[.pointer (some x5), .pointer (some y5)] w' fun e w'' => e = .returned (.bool c5) ∧ w' = w'') := Lib.hid fun w' g => by
      obtain ⟨_, _, he, h⟩ := (d5.kept g).calls
      cases he; exact h
    clear d5
    have i0 : ∀ w, (Instr.index 68 (.agg #[.int .i64 4, .func (.func 37) #[] #[.pointer (some x0), .pointer (some y0), .pointer (some z0)], .int .i64 5, .func (.func 38) #[] #[.pointer (some x1), .pointer (some y1)], .int .i64 6, .func (.func 37) #[] #[.pointer (some x2), .pointer (some y2), .pointer (some z2)], .int .i64 7, .func (.func 37) #[] #[.pointer (some x3), .pointer (some y3), .pointer (some z3)], .int .i64 8, .func (.func 38) #[] #[.pointer (some x4), .pointer (some y4)], .int .i64 9, .func (.func 38) #[] #[.pointer (some x5), .pointer (some y5)]]) (.int .i64 0)).run Try.prog w = .ok (.agg #[.int .i64 4, .func (.func 37) #[] #[.pointer (some x0), .pointer (some y0), .pointer (some z0)]]) w := fun _ => rfl
    have i1 : ∀ w, (Instr.index 68 (.agg #[.int .i64 4, .func (.func 37) #[] #[.pointer (some x0), .pointer (some y0), .pointer (some z0)], .int .i64 5, .func (.func 38) #[] #[.pointer (some x1), .pointer (some y1)], .int .i64 6, .func (.func 37) #[] #[.pointer (some x2), .pointer (some y2), .pointer (some z2)], .int .i64 7, .func (.func 37) #[] #[.pointer (some x3), .pointer (some y3), .pointer (some z3)], .int .i64 8, .func (.func 38) #[] #[.pointer (some x4), .pointer (some y4)], .int .i64 9, .func (.func 38) #[] #[.pointer (some x5), .pointer (some y5)]]) (.int .i64 1)).run Try.prog w = .ok (.agg #[.int .i64 5, .func (.func 38) #[] #[.pointer (some x1), .pointer (some y1)]]) w := fun _ => rfl
    have i2 : ∀ w, (Instr.index 68 (.agg #[.int .i64 4, .func (.func 37) #[] #[.pointer (some x0), .pointer (some y0), .pointer (some z0)], .int .i64 5, .func (.func 38) #[] #[.pointer (some x1), .pointer (some y1)], .int .i64 6, .func (.func 37) #[] #[.pointer (some x2), .pointer (some y2), .pointer (some z2)], .int .i64 7, .func (.func 37) #[] #[.pointer (some x3), .pointer (some y3), .pointer (some z3)], .int .i64 8, .func (.func 38) #[] #[.pointer (some x4), .pointer (some y4)], .int .i64 9, .func (.func 38) #[] #[.pointer (some x5), .pointer (some y5)]]) (.int .i64 2)).run Try.prog w = .ok (.agg #[.int .i64 6, .func (.func 37) #[] #[.pointer (some x2), .pointer (some y2), .pointer (some z2)]]) w := fun _ => rfl
    have i3 : ∀ w, (Instr.index 68 (.agg #[.int .i64 4, .func (.func 37) #[] #[.pointer (some x0), .pointer (some y0), .pointer (some z0)], .int .i64 5, .func (.func 38) #[] #[.pointer (some x1), .pointer (some y1)], .int .i64 6, .func (.func 37) #[] #[.pointer (some x2), .pointer (some y2), .pointer (some z2)], .int .i64 7, .func (.func 37) #[] #[.pointer (some x3), .pointer (some y3), .pointer (some z3)], .int .i64 8, .func (.func 38) #[] #[.pointer (some x4), .pointer (some y4)], .int .i64 9, .func (.func 38) #[] #[.pointer (some x5), .pointer (some y5)]]) (.int .i64 3)).run Try.prog w = .ok (.agg #[.int .i64 7, .func (.func 37) #[] #[.pointer (some x3), .pointer (some y3), .pointer (some z3)]]) w := fun _ => rfl
    have i4 : ∀ w, (Instr.index 68 (.agg #[.int .i64 4, .func (.func 37) #[] #[.pointer (some x0), .pointer (some y0), .pointer (some z0)], .int .i64 5, .func (.func 38) #[] #[.pointer (some x1), .pointer (some y1)], .int .i64 6, .func (.func 37) #[] #[.pointer (some x2), .pointer (some y2), .pointer (some z2)], .int .i64 7, .func (.func 37) #[] #[.pointer (some x3), .pointer (some y3), .pointer (some z3)], .int .i64 8, .func (.func 38) #[] #[.pointer (some x4), .pointer (some y4)], .int .i64 9, .func (.func 38) #[] #[.pointer (some x5), .pointer (some y5)]]) (.int .i64 4)).run Try.prog w = .ok (.agg #[.int .i64 8, .func (.func 38) #[] #[.pointer (some x4), .pointer (some y4)]]) w := fun _ => rfl
    have i5 : ∀ w, (Instr.index 68 (.agg #[.int .i64 4, .func (.func 37) #[] #[.pointer (some x0), .pointer (some y0), .pointer (some z0)], .int .i64 5, .func (.func 38) #[] #[.pointer (some x1), .pointer (some y1)], .int .i64 6, .func (.func 37) #[] #[.pointer (some x2), .pointer (some y2), .pointer (some z2)], .int .i64 7, .func (.func 37) #[] #[.pointer (some x3), .pointer (some y3), .pointer (some z3)], .int .i64 8, .func (.func 38) #[] #[.pointer (some x4), .pointer (some y4)], .int .i64 9, .func (.func 38) #[] #[.pointer (some x5), .pointer (some y5)]]) (.int .i64 5)).run Try.prog w = .ok (.agg #[.int .i64 9, .func (.func 38) #[] #[.pointer (some x5), .pointer (some y5)]]) w := fun _ => rfl
    go_wp2_with fail
    refine wp_loop_rounds 7 ?_
    rw [rounds_succ]
    cases c0
    · go_wp2_with ((with_reducible refine (D0.out _ (by repeat (first | (with_reducible exact Grown.refl _) | (with_reducible refine Grown.drew ?_) | (with_reducible refine Grown.alloc ?_ _ _)))).mono ?_); rintro e w' ⟨rfl, rfl⟩)
      go_ret
      exact ⟨rfl, grown_trans gw (by repeat (first | (with_reducible exact Grown.refl _) | (with_reducible refine Grown.drew ?_) | (with_reducible refine Grown.alloc ?_ _ _)))⟩
    · go_wp2_with ((with_reducible refine (D0.out _ (by repeat (first | (with_reducible exact Grown.refl _) | (with_reducible refine Grown.drew ?_) | (with_reducible refine Grown.alloc ?_ _ _)))).mono ?_); rintro e w' ⟨rfl, rfl⟩)
      rw [rounds_succ]
      cases c1
      · go_wp2_with ((with_reducible refine (D1.out _ (by repeat (first | (with_reducible exact Grown.refl _) | (with_reducible refine Grown.drew ?_) | (with_reducible refine Grown.alloc ?_ _ _)))).mono ?_); rintro e w' ⟨rfl, rfl⟩)
        go_ret
        exact ⟨rfl, grown_trans gw (by repeat (first | (with_reducible exact Grown.refl _) | (with_reducible refine Grown.drew ?_) | (with_reducible refine Grown.alloc ?_ _ _)))⟩
      · go_wp2_with ((with_reducible refine (D1.out _ (by repeat (first | (with_reducible exact Grown.refl _) | (with_reducible refine Grown.drew ?_) | (with_reducible refine Grown.alloc ?_ _ _)))).mono ?_); rintro e w' ⟨rfl, rfl⟩)
        rw [rounds_succ]
        cases c2
        · go_wp2_with ((with_reducible refine (D2.out _ (by repeat (first | (with_reducible exact Grown.refl _) | (with_reducible refine Grown.drew ?_) | (with_reducible refine Grown.alloc ?_ _ _)))).mono ?_); rintro e w' ⟨rfl, rfl⟩)
          go_ret
          exact ⟨rfl, grown_trans gw (by repeat (first | (with_reducible exact Grown.refl _) | (with_reducible refine Grown.drew ?_) | (with_reducible refine Grown.alloc ?_ _ _)))⟩
        · go_wp2_with ((with_reducible refine (D2.out _ (by repeat (first | (with_reducible exact Grown.refl _) | (with_reducible refine Grown.drew ?_) | (with_reducible refine Grown.alloc ?_ _ _)))).mono ?_); rintro e w' ⟨rfl, rfl⟩)
          rw [rounds_succ]
          cases c3
          · go_wp2_with ((with_reducible refine (D3.out _ (by repeat (first | (with_reducible exact Grown.refl _) | (with_reducible refine Grown.drew ?_) | (with_reducible refine Grown.alloc ?_ _ _)))).mono ?_); rintro e w' ⟨rfl, rfl⟩)
            go_ret
            exact ⟨rfl, grown_trans gw (by repeat (first | (with_reducible exact Grown.refl _) | (with_reducible refine Grown.drew ?_) | (with_reducible refine Grown.alloc ?_ _ _)))⟩
          · go_wp2_with ((with_reducible refine (D3.out _ (by repeat (first | (with_reducible exact Grown.refl _) | (with_reducible refine Grown.drew ?_) | (with_reducible refine Grown.alloc ?_ _ _)))).mono ?_); rintro e w' ⟨rfl, rfl⟩)
            rw [rounds_succ]
            cases c4
            · go_wp2_with ((with_reducible refine (D4.out _ (by repeat (first | (with_reducible exact Grown.refl _) | (with_reducible refine Grown.drew ?_) | (with_reducible refine Grown.alloc ?_ _ _)))).mono ?_); rintro e w' ⟨rfl, rfl⟩)
              go_ret
              exact ⟨rfl, grown_trans gw (by repeat (first | (with_reducible exact Grown.refl _) | (with_reducible refine Grown.drew ?_) | (with_reducible refine Grown.alloc ?_ _ _)))⟩
            · go_wp2_with ((with_reducible refine (D4.out _ (by repeat (first | (with_reducible exact Grown.refl _) | (with_reducible refine Grown.drew ?_) | (with_reducible refine Grown.alloc ?_ _ _)))).mono ?_); rintro e w' ⟨rfl, rfl⟩)
              rw [rounds_succ]
              cases c5
              · go_wp2_with ((with_reducible refine (D5.out _ (by repeat (first | (with_reducible exact Grown.refl _) | (with_reducible refine Grown.drew ?_) | (with_reducible refine Grown.alloc ?_ _ _)))).mono ?_); rintro e w' ⟨rfl, rfl⟩)
                go_ret
                exact ⟨rfl, grown_trans gw (by repeat (first | (with_reducible exact Grown.refl _) | (with_reducible refine Grown.drew ?_) | (with_reducible refine Grown.alloc ?_ _ _)))⟩
              · go_wp2_with ((with_reducible refine (D5.out _ (by repeat (first | (with_reducible exact Grown.refl _) | (with_reducible refine Grown.drew ?_) | (with_reducible refine Grown.alloc ?_ _ _)))).mono ?_); rintro e w' ⟨rfl, rfl⟩)
                rw [rounds_succ]
                go_wp2_with fail
                go_ret
                exact ⟨rfl, grown_trans gw (by repeat (first | (with_reducible exact Grown.refl _) | (with_reducible refine Grown.drew ?_) | (with_reducible refine Grown.alloc ?_ _ _)))⟩
end Go.Proofs.Ytllkokfaodpfiaa
