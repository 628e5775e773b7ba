/-
  Package body: the conditions of validity as function values, and what they answer.
-/
import Derived.Test.YtllkokfaodpfiaaGrown
import Derived.Deep.DeepCutAuto
namespace Go.Proofs.Ytllkokfaodpfiaa
open Go.RowKit Go.Lib

/-- The cells of the blocks from B on are as they were. -/
def Keeps (B : Nat) (w w' : World) : Prop := ∀ b o v, B ≤ b → w.cell? ⟨b, o, none⟩ = some v → w'.cell? ⟨b, o, none⟩ = some v
theorem Keeps.refl (B : Nat) (w : World) : Keeps B w w := fun _ _ _ _ h => h
theorem Keeps.grown {B : Nat} {w w' w'' : World} (h : Keeps B w w') (g : Grown w' w'') : Keeps B w w'' := fun b o v hb hv => kept_cell g (h b o v hb hv)
theorem Keeps.drew {B : Nat} {w w' : World} (h : Keeps B w w') : Keeps B w w'.drew := h
theorem Keeps.alloc {B : Nat} {w w' : World} (h : Keeps B w w') (c : Array Value) (t : TypeId) : Keeps B w (w'.alloc (.cells c t)) := h.grown ((Grown.refl _).alloc _ _)
theorem Keeps.below {B X o : Nat} {w w' : World} {u : Value} (h : Keeps B w w') (hx : X < B) : Keeps B w (w'.setCell ⟨X, o, none⟩ u) := fun b _ v hb hv => setc_far (h b _ v hb hv) (by simp; omega)
theorem Keeps.above {B X o : Nat} {w w' : World} {u : Value} (h : Keeps B w w') (hx : w.heap.size ≤ X) : Keeps B w (w'.setCell ⟨X, o, none⟩ u) := fun b _ v hb hv => setc_far (h b _ v hb hv) (by
  have := World.block_lt_of_cell? _ _ hv
  simp at this ⊢; omega)
/-- v is a condition that 'between' has made, in blocks from B on, and answers c. -/
def Btw (B : Nat) (w : World) (v : Value) (c : Bool) : Prop := ∃ (b0 b1 b2 : Nat) (n lo hi : Int), v = .func (.func 37) #[] #[.pointer (some ⟨b0, 0, none⟩), .pointer (some ⟨b1, 0, none⟩), .pointer (some ⟨b2, 0, none⟩)] ∧
  (B ≤ b0 ∧ B ≤ b1 ∧ B ≤ b2) ∧ w.cell? ⟨b0, 0, none⟩ = some (.int .i32 lo) ∧ w.cell? ⟨b1, 0, none⟩ = some (.int .i32 n) ∧ w.cell? ⟨b2, 0, none⟩ = some (.int .i32 hi) ∧ c = (decide (lo ≤ n) && decide (n ≤ hi))
/-- v is a condition that 'within' has made. -/
def Wth (B : Nat) (w : World) (v : Value) (c : Bool) : Prop := ∃ (b0 b1 : Nat) (v0 v1 : Value) (c0 c1 : Bool), v = .func (.func 38) #[] #[.pointer (some ⟨b0, 0, none⟩), .pointer (some ⟨b1, 0, none⟩)] ∧
  (B ≤ b0 ∧ B ≤ b1) ∧ w.cell? ⟨b0, 0, none⟩ = some v0 ∧ w.cell? ⟨b1, 0, none⟩ = some v1 ∧ Btw B w v0 c0 ∧ Btw B w v1 c1 ∧ c = (c0 && c1)
theorem Btw.keeps {B : Nat} {w w' : World} {v : Value} {c : Bool} (h : Btw B w v c) (g : Keeps B w w') : Btw 0 w' v c := by
  obtain ⟨b0, b1, b2, n, lo, hi, h0, hb, h1, h2, h3, h4⟩ := h
  exact ⟨b0, b1, b2, n, lo, hi, h0, ⟨Nat.zero_le _, Nat.zero_le _, Nat.zero_le _⟩, g _ _ _ hb.1 h1, g _ _ _ hb.2.1 h2, g _ _ _ hb.2.2 h3, h4⟩
theorem Wth.keeps {B : Nat} {w w' : World} {v : Value} {c : Bool} (h : Wth B w v c) (g : Keeps B w w') : Wth 0 w' v c := by
  obtain ⟨b0, b1, v0, v1, c0, c1, h0, hb, h1, h2, h3, h4, h5⟩ := h
  exact ⟨b0, b1, v0, v1, c0, c1, h0, ⟨Nat.zero_le _, Nat.zero_le _⟩, g _ _ _ hb.1 h1, g _ _ _ hb.2 h2, h3.keeps g, h4.keeps g, h5⟩
theorem Btw.kept {w w' : World} {v : Value} {c : Bool} (h : Btw 0 w v c) (g : Grown w w') : Btw 0 w' v c := h.keeps ((Keeps.refl _ _).grown g)
theorem Wth.kept {w w' : World} {v : Value} {c : Bool} (h : Wth 0 w v c) (g : Grown w w') : Wth 0 w' v c := h.keeps ((Keeps.refl _ _).grown g)

theorem btw_call (a0 a1 a2 : Addr) (n lo hi : Int) (w : World) (h0 : w.cell? a0 = some (.int .i32 lo)) (h1 : w.cell? a1 = some (.int .i32 n)) (h2 : w.cell? a2 = some (.int .i32 hi)) :
    Calls Try.prog 37 #[.pointer (some a0), .pointer (some a1), .pointer (some a2)] w fun e w' => e = .returned (.bool (decide (lo ≤ n) && decide (n ≤ hi))) ∧ w = w' := by
  by_cases c0 : lo ≤ n
  · by_cases c1 : n ≤ hi
    · rw [decide_eq_true c0, decide_eq_true c1]
      go_enter Try.func37, Try.ntmps37
      go_wp2
      go_ret
      exact ⟨rfl, rfl⟩
    · rw [decide_eq_true c0, decide_eq_false c1]
      go_enter Try.func37, Try.ntmps37
      go_wp2
      go_ret
      exact ⟨rfl, rfl⟩
  · rw [decide_eq_false c0]
    go_enter Try.func37, Try.ntmps37
    go_wp2
    go_ret
    exact ⟨rfl, rfl⟩

/-- What a call of a condition that 'between' has made answers, whichever way it is called. -/
theorem Btw.calls {B : Nat} {w : World} {v : Value} {c : Bool} (h : Btw B w v c) : ∃ a0 a1 a2 : Addr, v = .func (.func 37) #[] #[.pointer (some a0), .pointer (some a1), .pointer (some a2)] ∧
    Calls Try.prog 37 #[.pointer (some a0), .pointer (some a1), .pointer (some a2)] w fun e w' => e = .returned (.bool c) ∧ w = w' := by
  obtain ⟨b0, b1, b2, n, lo, hi, h0, _, h1, h2, h3, rfl⟩ := h
  exact ⟨_, _, _, h0, btw_call _ _ _ n lo hi w h1 h2 h3⟩

theorem Wth.calls {B : Nat} {w : World} {v : Value} {c : Bool} (h : Wth B w v c) : ∃ a0 a1 : Addr, v = .func (.func 38) #[] #[.pointer (some a0), .pointer (some a1)] ∧
    Calls Try.prog 38 #[.pointer (some a0), .pointer (some a1)] w fun e w' => e = .returned (.bool c) ∧ w = w' := by
  obtain ⟨b0, b1, v0, v1, c0, c1, rfl, _, h1, h2, h3, h4, rfl⟩ := h
  obtain ⟨x0, x1, x2, rfl, C0⟩ := h3.calls
  obtain ⟨y0, y1, y2, rfl, C1⟩ := h4.calls
  replace C0 := Lib.hid C0
  replace C1 := Lib.hid C1
  refine ⟨_, _, rfl, ?_⟩
  cases c0
  · go_enter Try.func38, Try.ntmps38
    go_wp2_with (first
      | ((with_reducible refine (C0.out).mono ?_); rintro e w' ⟨rfl, rfl⟩)
      | ((with_reducible refine (C1.out).mono ?_); rintro e w' ⟨rfl, rfl⟩))
    go_ret
    exact ⟨rfl, rfl⟩
  · go_enter Try.func38, Try.ntmps38
    go_wp2_with (first
      | ((with_reducible refine (C0.out).mono ?_); rintro e w' ⟨rfl, rfl⟩)
      | ((with_reducible refine (C1.out).mono ?_); rintro e w' ⟨rfl, rfl⟩))
    go_ret
    exact ⟨rfl, rfl⟩

/-- A call that makes a condition, in new blocks. -/
def MakesB (c : Bool) (w : World) (e : Ending) (w' : World) : Prop := ∃ b0 b1 b2 : Nat, e = .returned (.func (.func 37) #[] #[.pointer (some ⟨b0, 0, none⟩), .pointer (some ⟨b1, 0, none⟩), .pointer (some ⟨b2, 0, none⟩)]) ∧
  Btw w.heap.size w' (.func (.func 37) #[] #[.pointer (some ⟨b0, 0, none⟩), .pointer (some ⟨b1, 0, none⟩), .pointer (some ⟨b2, 0, none⟩)]) c ∧ Grown w w'
def MakesW (c : Bool) (w : World) (e : Ending) (w' : World) : Prop := ∃ b0 b1 : Nat, e = .returned (.func (.func 38) #[] #[.pointer (some ⟨b0, 0, none⟩), .pointer (some ⟨b1, 0, none⟩)]) ∧
  Wth w.heap.size w' (.func (.func 38) #[] #[.pointer (some ⟨b0, 0, none⟩), .pointer (some ⟨b1, 0, none⟩)]) c ∧ Grown w w'

theorem between_ex (n lo hi : Int) (w : World) : Calls Try.prog 35 #[.int .i32 n, .int .i32 lo, .int .i32 hi] w fun e w' => e = .returned (.func (.func 37) #[] #[.pointer (some ⟨w.heap.size + 1, 0, none⟩), .pointer (some ⟨w.heap.size, 0, none⟩), .pointer (some ⟨w.heap.size + 1 + 1, 0, none⟩)]) ∧ w' = ((w.alloc (.cells #[.int .i32 n] 21)).alloc (.cells #[.int .i32 lo] 21)).alloc (.cells #[.int .i32 hi] 21) := by
  have hmf : ∀ (fn : Fn) (first cap : Array Value) (w : World), (Instr.makeFunc fn first cap).run Try.prog w = .ok (.func fn first cap) w := fun _ _ _ _ => rfl
  go_enter Try.func35, Try.ntmps35
  go_wp2
  go_ret
  exact ⟨rfl, rfl⟩

theorem between_any (n lo hi : Int) (c : Bool) (hc : (decide (lo ≤ n) && decide (n ≤ hi)) = c) (w : World) : Calls Try.prog 35 #[.int .i32 n, .int .i32 lo, .int .i32 hi] w (MakesB c w) := by
  refine (between_ex n lo hi w).mono ?_
  rintro e w' ⟨rfl, rfl⟩
  refine ⟨_, _, _, rfl, ⟨_, _, _, n, lo, hi, rfl, ⟨by omega, by omega, by omega⟩, ?_, ?_, ?_, hc.symm⟩, (((Grown.refl _).alloc _ _).alloc _ _).alloc _ _⟩
  · rw [World.cell?_alloc_past _ _ _ (by simp), World.cell?_alloc_at _ _ _ _ (by simp)]; rfl
  · rw [World.cell?_alloc_past _ _ _ (by simp; omega), World.cell?_alloc_past _ _ _ (by simp), World.cell?_alloc_at _ _ _ _ (by simp)]; rfl
  · rw [World.cell?_alloc_at _ _ _ _ (by simp)]; rfl
end Go.Proofs.Ytllkokfaodpfiaa
