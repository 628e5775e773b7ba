/-
  Package store: cells of a body that lies in a store; Get.
-/
import Derived.Test.YtfkieieedljodaaStoreIs
namespace Go.Proofs.Ytfkieieedljodaa
open Go.RowKit Go.Lib Go.Maps

theorem SI.alloc {w : World} {sb : Nat} {S : Nat → Prop} {m : List Bd} {v : Value} {mp : Option Nat} {D : List Bd} (h : SI w sb S m v mp D) (o : Obj) : SI (w.alloc o) sb S m v mp D := h.kept (by simp) fun k hk => (World.grownBy_alloc w o none).block k (h.lt k hk) (by simp)
/-- The body at a place. -/
theorem SI.at_ {w : World} {sb : Nat} {S : Nat → Prop} {m : List Bd} {v : Value} {mp : Option Nat} {D : List Bd} (h : SI w sb S m v mp D) {i : Nat} {b : Bd} (hi : D[i]? = some b) : ∃ g cap, v = .slice (some ⟨g, 0, none⟩) D.length cap ∧ D.length ≤ cap ∧ i < D.length ∧ g ≠ sb ∧ S g ∧ g < w.heap.size ∧ (∀ j, w.frozen? ⟨g, j, none⟩ = false) ∧ w.cell? ⟨g, i * 10, none⟩ = some (Value.int .u32 b.k) ∧ w.cell? ⟨g, i * 10 + 1, none⟩ = some (Value.int .i32 b.r) ∧ w.cell? ⟨g, i * 10 + 2, none⟩ = some (Value.int .i32 b.ax) ∧ w.cell? ⟨g, i * 10 + 3, none⟩ = some (Value.int .i32 b.ay) ∧ w.cell? ⟨g, i * 10 + 4, none⟩ = some (Value.int .i32 b.m) ∧ w.cell? ⟨g, i * 10 + 5, none⟩ = some (Value.int .i32 b.o) ∧ w.cell? ⟨g, i * 10 + 6, none⟩ = some (Value.int .i32 b.px) ∧ w.cell? ⟨g, i * 10 + 7, none⟩ = some (Value.int .i32 b.py) ∧ w.cell? ⟨g, i * 10 + 8, none⟩ = some (Value.int .i32 b.vx) ∧ w.cell? ⟨g, i * 10 + 9, none⟩ = some (Value.int .i32 b.vy) := by
  have hl := (List.getElem?_eq_some_iff.1 hi).1
  have ho := h.own
  rcases h.slice with ⟨_, rfl⟩ | ⟨g, cap, rfl, n, s, hc⟩
  · simp at hl
  · have f : ∀ j x, j < 10 → (vals b)[j]? = some x → w.cell? ⟨g, i * 10 + j, none⟩ = some x := fun j x hj hx => by
      rw [ho.cellAt (i * 10 + j) (by omega), flat_get D i b hi j hj]; exact hx
    exact ⟨g, cap, rfl, hc, hl, n, s, h.lt g s, ho.frozenAt, f 0 _ (by decide) rfl, f 1 _ (by decide) rfl, f 2 _ (by decide) rfl, f 3 _ (by decide) rfl, f 4 _ (by decide) rfl, f 5 _ (by decide) rfl, f 6 _ (by decide) rfl, f 7 _ (by decide) rfl, f 8 _ (by decide) rfl, f 9 _ (by decide) rfl⟩

set_option maxRecDepth 100000 in
set_option maxHeartbeats 1000000 in
theorem get_no {w : World} {sb : Nat} {S : Nat → Prop} {m : List Bd} (h : StoreIs w sb S m) {key : Int} (hk : (Lit.int .u32 key).wf = true) (e : look m key = none) :
    Calls Try.prog 15 #[Value.pointer (some ⟨sb, 0, none⟩), .int .u32 key] w fun e w' => e = .returned (.tuple #[.agg #[Value.int .u32 0, Value.int .i32 0, Value.int .i32 0, Value.int .i32 0, Value.int .i32 0, Value.int .i32 0, Value.int .i32 0, Value.int .i32 0, Value.int .i32 0, Value.int .i32 0], .int .i64 11]) ∧ Kep w.heap.size w w' := by
  obtain ⟨v, mp, D, h⟩ := h
  have C := Lib.hid (fun o => find_no (h.alloc o) hk e)
  clear h e hk
  go_enter Try.func15, Try.ntmps15
  go_wp2_with ((with_reducible refine (C.out _).mono ?_); rintro e w' ⟨rfl, rfl⟩)
  exact bodyPost_ret (v := .tuple #[.agg #[Value.int .u32 0, Value.int .i32 0, Value.int .i32 0, Value.int .i32 0, Value.int .i32 0, Value.int .i32 0, Value.int .i32 0, Value.int .i32 0, Value.int .i32 0, Value.int .i32 0], .int .i64 11]) (by simp [results, Try.results15, go_sem]) rfl ⟨rfl, Kep.alloc (Kep.refl _ _) (Nat.le_refl _) _⟩
set_option maxRecDepth 100000 in
set_option maxHeartbeats 1000000 in
theorem get_yes {w : World} {sb : Nat} {S : Nat → Prop} {m : List Bd} (h : StoreIs w sb S m) {key : Int} (hk : (Lit.int .u32 key).wf = true) {b : Bd} (e : look m key = some b) :
    Calls Try.prog 15 #[Value.pointer (some ⟨sb, 0, none⟩), .int .u32 key] w fun e w' => e = .returned (.tuple #[Value.agg #[Value.int .u32 b.k, Value.int .i32 b.r, Value.int .i32 b.ax, Value.int .i32 b.ay, Value.int .i32 b.m, Value.int .i32 b.o, Value.int .i32 b.px, Value.int .i32 b.py, Value.int .i32 b.vx, Value.int .i32 b.vy], .int .i64 0]) ∧ Kep w.heap.size w w' := by
  obtain ⟨v, mp, D, h⟩ := h
  obtain ⟨i, hi, rfl, C0⟩ := find_yes (h.alloc (.cells #[Value.int .u32 0, Value.int .i32 0, Value.int .i32 0, Value.int .i32 0, Value.int .i32 0, Value.int .i32 0, Value.int .i32 0, Value.int .i32 0, Value.int .i32 0, Value.int .i32 0] 32)) hk e
  have C := Lib.hid C0
  obtain ⟨g, cap, rfl, hcap, hl, _, _, hg, hf, x0, x1, x2, x3, x4, x5, x6, x7, x8, x9⟩ := h.at_ hi
  have c0 := h.c0
  have hs := h.lt sb h.ssb
  generalize D.length = n at *
  have i0 : (0 : Int) ≤ (i : Int) := Int.natCast_nonneg _
  have i1 : (i : Int) < (n : Int) := by omega
  clear h e hk C0 hf hi
  go_enter Try.func15, Try.ntmps15
  go_wp2_with ((with_reducible refine (C.out).mono ?_); rintro e w' ⟨rfl, rfl⟩)
  exact bodyPost_ret (v := .tuple #[Value.agg #[Value.int .u32 b.k, Value.int .i32 b.r, Value.int .i32 b.ax, Value.int .i32 b.ay, Value.int .i32 b.m, Value.int .i32 b.o, Value.int .i32 b.px, Value.int .i32 b.py, Value.int .i32 b.vx, Value.int .i32 b.vy], .int .i64 0]) (by simp [results, Try.results15, go_sem]) rfl ⟨rfl, Kep.alloc (Kep.refl _ _) (Nat.le_refl _) _⟩
end Go.Proofs.Ytfkieieedljodaa
