/-
  Package store's reference: Same, of two slices that read as one list.
-/
import Derived.Test.YtllkokfaodpfiaaStoreRef
namespace Go.Proofs.Ytllkokfaodpfiaa
open Go.RowKit Go.Lib

theorem body_neq (x : Bd) (w : World) : (binOp .neq 46 (.agg #[.int .u32 x.k, .int .i32 x.r, .int .i32 x.ax, .int .i32 x.ay, .int .i32 x.m, .int .i32 x.o, .int .i32 x.px, .int .i32 x.py, .int .i32 x.vx, .int .i32 x.vy]) (.agg #[.int .u32 x.k, .int .i32 x.r, .int .i32 x.ax, .int .i32 x.ay, .int .i32 x.m, .int .i32 x.o, .int .i32 x.px, .int .i32 x.py, .int .i32 x.vx, .int .i32 x.vy])).run Try.prog w = .ok (.bool false) w := by
  simp [go_sem]
theorem old_cells {w wr : World} {x : Bd} {g off k : Nat} (h : Kep w.heap.size w wr) (hc : ∀ i, i < 10 → w.cell? ⟨g, off + k * 10 + i, none⟩ = (vals x)[i]?) : wr.cell? ⟨g, off + k * 10, none⟩ = some (.int .u32 x.k) ∧ wr.cell? ⟨g, off + k * 10 + 1, none⟩ = some (.int .i32 x.r) ∧ wr.cell? ⟨g, off + k * 10 + 2, none⟩ = some (.int .i32 x.ax) ∧ wr.cell? ⟨g, off + k * 10 + 3, none⟩ = some (.int .i32 x.ay) ∧ wr.cell? ⟨g, off + k * 10 + 4, none⟩ = some (.int .i32 x.m) ∧ wr.cell? ⟨g, off + k * 10 + 5, none⟩ = some (.int .i32 x.o) ∧ wr.cell? ⟨g, off + k * 10 + 6, none⟩ = some (.int .i32 x.px) ∧ wr.cell? ⟨g, off + k * 10 + 7, none⟩ = some (.int .i32 x.py) ∧ wr.cell? ⟨g, off + k * 10 + 8, none⟩ = some (.int .i32 x.vx) ∧ wr.cell? ⟨g, off + k * 10 + 9, none⟩ = some (.int .i32 x.vy) :=
  have f : ∀ (i : Nat) (v : Value), i < 10 → (vals x)[i]? = some v → wr.cell? ⟨g, off + k * 10 + i, none⟩ = some v := fun i v hi hv => h.all ((hc i hi).trans hv)
  ⟨f 0 _ (by decide) rfl, f 1 _ (by decide) rfl, f 2 _ (by decide) rfl, f 3 _ (by decide) rfl, f 4 _ (by decide) rfl, f 5 _ (by decide) rfl, f 6 _ (by decide) rfl, f 7 _ (by decide) rfl, f 8 _ (by decide) rfl, f 9 _ (by decide) rfl⟩
theorem Lst.full {w : World} {v : Value} {L : List Bd} (h : Lst w v L) (hL : L ≠ []) : ∃ g off cap, v = .slice (some ⟨g, off, none⟩) L.length cap ∧ ∀ (k : Nat) (b : Bd), L[k]? = some b → ∀ i, i < 10 → w.cell? ⟨g, off + k * 10 + i, none⟩ = (vals b)[i]? := by
  rcases h with ⟨h, _⟩ | h
  · exact absurd h hL
  · exact h

set_option maxRecDepth 100000 in
set_option maxHeartbeats 1000000 in
theorem same_any (v1 v2 : Value) (L : List Bd) (w : World) (h1 : Lst w v1 L) (h2 : Lst w v2 L) (hm : L.length ≤ 1000000000) :
    Calls Try.prog 14 #[v1, v2] w fun e w' => e = .returned (.bool true) ∧ Kep w.heap.size w w' := by
  by_cases hL : L = []
  · subst hL
    obtain ⟨b1, c1, rfl⟩ := h1.shape
    obtain ⟨b2, c2, rfl⟩ := h2.shape
    clear h1 h2 hm
    go_enter Try.func14, Try.ntmps14
    go_wp2
    refine wp_loop_rounds 1 ?_
    rw [rounds_succ]
    go_wp2
    go_ret
    exact ⟨rfl, Kep.refl _ _⟩
  · obtain ⟨g, off, cap, rfl, hc⟩ := h1.full hL
    obtain ⟨g2, off2, cap2, rfl, hc2⟩ := h2.full hL
    have HC := Lib.hid hc
    have HC2 := Lib.hid hc2
    clear hc hc2 h1 h2 hL
    generalize hn : L.length = n at *
    have HN := Lib.hid hn
    clear hn
    go_enter Try.func14, Try.ntmps14
    go_wp2
    go_loopw [5] (fun i wr => ∃ k : Nat, k ≤ n ∧ i = .int .i64 k ∧ Hid (Kep w.heap.size w wr)) (fun i _ => n - (RowKit.intOf i).toNat)
    case atStart => exact ⟨0, Nat.zero_le _, rfl, Lib.hid (Kep.refl _ _)⟩
    case round =>
      obtain ⟨k, hk, rfl, HK⟩ := hrel
      by_cases hlt : k < n
      · have hb : L[k]? = some (L[k]'(by rw [HN.out]; exact hlt)) := List.getElem?_eq_getElem _
        generalize L[k]'(by rw [HN.out]; exact hlt) = x at hb
        obtain ⟨x0, x1, x2, x3, x4, x5, x6, x7, x8, x9⟩ := old_cells HK.out (HC.out k x hb)
        obtain ⟨y0, y1, y2, y3, y4, y5, y6, y7, y8, y9⟩ := old_cells HK.out (HC2.out k x hb)
        have e := body_neq x
        clear hb
        go_wp2_with fail
        go_quiet (fail)
        go_wp2_with fail
        go_roundw
        case rel => exact ⟨k + 1, by omega, by go_num, Lib.hid (HK.out.drewN _)⟩
        case measure => simp [RowKit.intOf]; omega
      · go_wp2
        go_ret
        exact ⟨rfl, HK.out⟩
end Go.Proofs.Ytllkokfaodpfiaa
