/-
  Views moved, and without a body; slices of them (no program).
-/
import Derived.Test.YtangalkbjochjaaGreatDoorJ15PairsRef1
namespace Go.Proofs.YtangalkbjochjaaGreatDoor
open Go.RowKit Go.Lib

/-- The bodies moved stayK in the world. -/
def stayK (dx dy : Int) (x : Bd) : Prop := (-1073741824 ≤ x.px + dx ∧ x.px + dx ≤ 1073741824) ∧ (-1073741824 ≤ x.py + dy ∧ x.py + dy ≤ 1073741824)
theorem vw_mvK {L : List Bd} (h : Vw L) {dx dy : Int} (hs : ∀ x ∈ L, stayK dx dy x) : Vw (L.map (mvB dx dy)) := by
  refine ⟨asc_mv dx dy h.asc, fun x hx => ?_, fun x hx => ?_, by rw [List.length_map]; exact h.len⟩
  · obtain ⟨y, hy, rfl⟩ := List.mem_map.1 hx
    exact chk_mv (h.ok y hy) (hs y hy).1 (hs y hy).2
  · obtain ⟨y, hy, rfl⟩ := List.mem_map.1 hx
    exact h.key y hy
theorem vals_lenK (x : Bd) : (vals x).length = 10 := rfl
theorem vals_oneK (x : Bd) : ∀ u ∈ vals x, u.oneCell' = true := one_cell x
theorem sq_takeK {α : Type} {f : α → List Value} {n : Nat} {w : World} {L : List α} {g off len k c : Nat} (hl : L.length = len) (hk : k ≤ len) (hc : ∀ (k : Nat) (x : α), L[k]? = some x → ∃ g' off', (some ⟨g, off, none⟩ : Option Addr) = some ⟨g', off', none⟩ ∧ ∀ (i : Nat) (u : Value), (f x)[i]? = some u → w.cell? ⟨g', off' + k * n + i, none⟩ = some u) :
    Sq f n w (.slice (some ⟨g, off, none⟩) k c) (L.take k) := by
  refine ⟨_, c, by rw [List.length_take, hl, Nat.min_eq_left hk], fun j x hx => ?_⟩
  have hx' : L[j]? = some x := by
    rw [List.getElem?_take] at hx
    split at hx
    · exact hx
    · cases hx
  obtain ⟨g', off', e, hi⟩ := hc j x hx'
  exact ⟨g', off', e, hi⟩
theorem lst_sqK {w : World} {v : Value} {L : List Bd} (h : Lst w v L) : Sq vals 10 w v L := by
  obtain ⟨base, cap, rfl⟩ := h.shape
  refine ⟨base, cap, rfl, fun k x hx => ?_⟩
  obtain ⟨g, off, rfl, q⟩ := h.at_ hx
  refine ⟨g, off, rfl, fun i u hu => ?_⟩
  have hi : i < 10 := by have := (List.getElem?_eq_some_iff.1 hu).1; exact this
  rw [q i hi]
  exact hu
theorem vw_goneK {L : List Bd} (h : Vw L) {k : Nat} {x : Bd} (hx : L[k]? = some x) : Vw (L.take k ++ L.drop (k + 1)) := by
  rw [gone_at h.asc hx]
  refine ⟨asc_filter _ h.asc, fun y hy => h.ok y (List.mem_filter.1 hy).1, fun y hy => h.key y (List.mem_filter.1 hy).1, ?_⟩
  have := List.length_filter_le (fun y : Bd => decide (y.k ≠ x.k)) L
  have := h.len
  omega
end Go.Proofs.YtangalkbjochjaaGreatDoor
