/-
  Package body: the condition on a vector that 'within' makes, in whatever order its statement runs.
-/
import Derived.Test.YtllkokfaodpfiaaBodyFun
namespace Go.Proofs.Ytllkokfaodpfiaa
open Go.RowKit Go.Lib

theorem two_kept {W w' : World} {a b : Nat × Nat} {u v : Value} (h0 : W.cell? ⟨a.1, a.2, none⟩ = some u) (h1 : W.cell? ⟨b.1, b.2, none⟩ = some v) (g : Grown W w') : w'.cell? ⟨a.1, a.2, none⟩ = some u ∧ w'.cell? ⟨b.1, b.2, none⟩ = some v ∧ Grown W w' := ⟨kept_cell g h0, kept_cell g h1, g⟩

theorem wth_mk {w : World} {B P Q b0 b1 b2 d0 d1 d2 : Nat} {x y l nl : Int} {c : Bool}
    (hP : w.cell? ⟨P, 0, none⟩ = some (.func (.func 37) #[] #[.pointer (some ⟨b0, 0, none⟩), .pointer (some ⟨b1, 0, none⟩), .pointer (some ⟨b2, 0, none⟩)]))
    (hQ : w.cell? ⟨Q, 0, none⟩ = some (.func (.func 37) #[] #[.pointer (some ⟨d0, 0, none⟩), .pointer (some ⟨d1, 0, none⟩), .pointer (some ⟨d2, 0, none⟩)]))
    (h0 : w.cell? ⟨b0, 0, none⟩ = some (.int .i32 nl)) (h1 : w.cell? ⟨b1, 0, none⟩ = some (.int .i32 x)) (h2 : w.cell? ⟨b2, 0, none⟩ = some (.int .i32 l))
    (h3 : w.cell? ⟨d0, 0, none⟩ = some (.int .i32 nl)) (h4 : w.cell? ⟨d1, 0, none⟩ = some (.int .i32 y)) (h5 : w.cell? ⟨d2, 0, none⟩ = some (.int .i32 l))
    (hb : B ≤ P ∧ B ≤ Q ∧ B ≤ b0 ∧ B ≤ b1 ∧ B ≤ b2 ∧ B ≤ d0 ∧ B ≤ d1 ∧ B ≤ d2)
    (hc : ((decide (nl ≤ x) && decide (x ≤ l)) && (decide (nl ≤ y) && decide (y ≤ l))) = c) : Wth B w (.func (.func 38) #[] #[.pointer (some ⟨P, 0, none⟩), .pointer (some ⟨Q, 0, none⟩)]) c :=
  ⟨P, Q, _, _, _, _, rfl, ⟨hb.1, hb.2.1⟩, hP, hQ, ⟨_, _, _, _, _, _, rfl, ⟨hb.2.2.1, hb.2.2.2.1, hb.2.2.2.2.1⟩, h0, h1, h2, rfl⟩, ⟨_, _, _, _, _, _, rfl, ⟨hb.2.2.2.2.2.1, hb.2.2.2.2.2.2.1, hb.2.2.2.2.2.2.2⟩, h3, h4, h5, rfl⟩, hc.symm⟩

set_option maxHeartbeats 1000000 in
theorem within_ex (x y l nl : Int) (c : Bool) (HC : Hid (((decide (nl ≤ x) && decide (x ≤ l)) && (decide (nl ≤ y) && decide (y ≤ l))) = c)) (hl : IntKind.i32.wrap (-l) = nl) (w : World) : Calls Try.prog 36 #[.agg #[.int .i32 x, .int .i32 y], .int .i32 l] w (MakesW c w) := by
  have hmf : ∀ (fn : Fn) (first cap : Array Value) (w : World), (Instr.makeFunc fn first cap).run Try.prog w = .ok (.func fn first cap) w := fun _ _ _ _ => rfl
  have hsf := fun (a : Addr) (f : Nat) (c : Array Value) (w : World) => run_store Try.prog w a (.func (.func f) #[] c) .plain rfl
  have C1 := Lib.hid (between_ex x nl l)
  have C2 := Lib.hid (between_ex y nl l)
  have k0 : (w.alloc (.cells #[.int .i32 x, .int .i32 y] 44)).cell? ⟨w.heap.size, 0, none⟩ = some (.int .i32 x) := by rw [World.cell?_alloc_at _ _ _ _ rfl]; rfl
  have k1 : (w.alloc (.cells #[.int .i32 x, .int .i32 y] 44)).cell? ⟨w.heap.size, 1, none⟩ = some (.int .i32 y) := by rw [World.cell?_alloc_at _ _ _ _ rfl]; rfl
  have K := Lib.hid (fun w' => two_kept (w' := w') (a := (w.heap.size, 0)) (b := (w.heap.size, 1)) k0 k1)
  clear k0 k1
  go_enter Try.func36, Try.ntmps36
  go_wp2
  go_region_held3 (fun w' => w'.cell? ⟨w.heap.size, 0, none⟩ = some (.int .i32 x) ∧ w'.cell? ⟨w.heap.size, 1, none⟩ = some (.int .i32 y) ∧ Grown (w.alloc (.cells #[.int .i32 x, .int .i32 y] 44)) w')
    (first
      | assumption
      | (refine K.out _ ?_; repeat (first | (with_reducible exact Grown.refl _) | (with_reducible refine Grown.drew ?_) | (with_reducible refine Grown.alloc ?_ _ _) | ((with_reducible refine Grown.setCell ?_ ?_ _); case refine_2 => (simp; omega)))))
    (first
      | ((with_reducible refine (C1.out _).mono ?_); rintro e w1 ⟨rfl, rfl⟩)
      | ((with_reducible refine (C2.out _).mono ?_); rintro e w1 ⟨rfl, rfl⟩))
  all_goals go_wp2
  all_goals go_ret
  all_goals (
    refine' ⟨_, _, rfl, wth_mk (by
      repeat (first | rw [World.cell?_drew] | rw [World.cell?_alloc_past _ _ _ (by first | (simp; done) | (simp; omega))])
      rw [World.cell?_alloc_at _ _ _ _ (by simp)]
      rfl) (by
      repeat (first | rw [World.cell?_drew] | rw [World.cell?_alloc_past _ _ _ (by first | (simp; done) | (simp; omega))])
      rw [World.cell?_alloc_at _ _ _ _ (by simp)]
      rfl) ?_ ?_ ?_ ?_ ?_ ?_ (by omega) HC.out, ?_⟩
    all_goals (first
      | (repeat (first | rw [World.cell?_drew] | rw [World.cell?_alloc_past _ _ _ (by first | (simp; done) | (simp; omega))])
         rw [World.cell?_alloc_at _ _ _ _ (by simp)]
         rfl)
      | (repeat (first | (with_reducible exact Grown.refl _) | (with_reducible refine Grown.drew ?_) | (with_reducible refine Grown.alloc ?_ _ _)))))

theorem within_any (x y l nl : Int) (c : Bool) (hl : IntKind.i32.wrap (-l) = nl) (hc : ((decide (nl ≤ x) && decide (x ≤ l)) && (decide (nl ≤ y) && decide (y ≤ l))) = c) (w : World) : Calls Try.prog 36 #[.agg #[.int .i32 x, .int .i32 y], .int .i32 l] w (MakesW c w) :=
  within_ex x y l nl c (Lib.hid hc) hl w
end Go.Proofs.Ytllkokfaodpfiaa
