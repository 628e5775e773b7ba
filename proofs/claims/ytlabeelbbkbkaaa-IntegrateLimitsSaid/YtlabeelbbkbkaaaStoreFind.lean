/-
  Package store's reference: slices that read as lists of bodies; Find.
-/
import Derived.Test.YtlabeelbbkbkaaaJ00DivArith
import Derived.WalkKit
import Derived.Deep.LoopGhost
namespace Go.Proofs.Ytlabeelbbkbkaaa
open Go.RowKit Go.Lib

/-- A body's ten cells. -/
def vals (b : Bd) : List Value := [.int .u32 b.k, .int .i32 b.r, .int .i32 b.ax, .int .i32 b.ay, .int .i32 b.m, .int .i32 b.o, .int .i32 b.px, .int .i32 b.py, .int .i32 b.vx, .int .i32 b.vy]
/-- The value v is a slice that reads as the list L of bodies. -/
def Lst (w : World) (v : Value) (L : List Bd) : Prop := (L = [] ∧ ∃ base cap, v = .slice base 0 cap) ∨
  ∃ g off cap, v = .slice (some ⟨g, off, none⟩) L.length cap ∧ ∀ (k : Nat) (b : Bd), L[k]? = some b → ∀ i, i < 10 → w.cell? ⟨g, off + k * 10 + i, none⟩ = (vals b)[i]?
theorem Lst.kept {w w' : World} {v : Value} {L : List Bd} (h : Lst w v L) (g : Grown w w') : Lst w' v L := by
  rcases h with h | ⟨b, o, c, h1, h2⟩
  · exact .inl h
  · refine .inr ⟨b, o, c, h1, fun k x hx i hi => ?_⟩
    have e := h2 k x hx i hi
    have n : i < (vals x).length := hi
    rw [List.getElem?_eq_getElem n] at e ⊢
    exact kept_cell g e

theorem ret_int64 {a b : Int} (h : a = b) : Ending.returned (.int .i64 a) = Ending.returned (.int .i64 b) := by rw [h]
theorem place_drop {L : List Bd} {key : Int} {k : Nat} {b : Bd} (h : L[k]? = some b) : place (L.drop k) key k = if b.k = key then (k : Int) else place (L.drop (k + 1)) key (k + 1) := by
  obtain ⟨hk, e⟩ := List.getElem?_eq_some_iff.1 h
  rw [List.drop_eq_getElem_cons hk, e]
  rfl

theorem find_any (v : Value) (L : List Bd) (key : Int) (w : World) (h : Lst w v L) (hm : L.length ≤ 1000000000) :
    Calls Try.prog 37 #[v, .int .u32 key] w fun e w' => e = .returned (.int .i64 (place L key 0)) ∧ w = w' := by
  rcases h with ⟨rfl, base, cap, rfl⟩ | ⟨g, off, cap, rfl, hc⟩
  · go_enter Try.func37, Try.ntmps37
    go_wp2
    refine wp_loop_rounds 1 ?_
    rw [rounds_succ]
    go_wp2
    go_ret
    exact ⟨rfl, rfl⟩
  · have HC := Lib.hid hc
    clear hc
    generalize hn : L.length = n at *
    have HN := Lib.hid hn
    clear hn
    go_enter Try.func37, Try.ntmps37
    go_wp2
    go_loop [5] (fun i => ∃ k : Nat, k ≤ n ∧ i = .int .i64 k ∧ Hid (place L key 0 = place (L.drop k) key k)) (fun i => n - (RowKit.intOf i).toNat)
    case atStart => exact ⟨0, Nat.zero_le _, rfl, Lib.hid (by simp)⟩
    case round =>
      obtain ⟨k, hk, rfl, HP⟩ := hrel
      by_cases hlt : k < n
      · have hb : L[k]? = some (L[k]'(by rw [HN.out]; exact hlt)) := List.getElem?_eq_getElem _
        generalize L[k]'(by rw [HN.out]; exact hlt) = b at hb
        have c0 : w.cell? ⟨g, off + k * 10, none⟩ = some (.int .u32 b.k) := HC.out k b hb 0 (by omega)
        have HQ := Lib.hid (place_drop (key := key) hb)
        clear hb
        obtain ⟨x, hx⟩ : ∃ x, x = b.k := ⟨_, rfl⟩
        rw [← hx] at c0
        have HX := Lib.hid hx
        clear hx
        by_cases e : x = key
        · subst e
          go_wp2
          go_ret
          exact ⟨ret_int64 (by rw [HP.out, HQ.out, if_pos HX.out.symm]), rfl⟩
        · have e2 : (x == key) = false := beq_eq_false_iff_ne.2 e
          go_wp2
          go_round
          case rel => exact ⟨k + 1, by omega, by go_num, Lib.hid (by rw [HP.out, HQ.out, if_neg (by rw [← HX.out]; exact e)])⟩
          case measure => simp [RowKit.intOf]; omega
      · go_wp2
        go_ret
        exact ⟨ret_int64 (by rw [HP.out, List.drop_eq_nil_of_le (by rw [HN.out]; omega)]; rfl), rfl⟩
end Go.Proofs.Ytlabeelbbkbkaaa
