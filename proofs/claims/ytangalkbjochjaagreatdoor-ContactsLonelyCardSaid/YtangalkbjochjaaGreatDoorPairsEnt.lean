/-
  Package pairs: a view's bodies as a grid's entries (no program).
-/
import Derived.Test.YtangalkbjochjaaGreatDoorJ06CellCon
import Derived.Test.YtangalkbjochjaaGreatDoorJ14ViewMath
import Derived.Test.YtangalkbjochjaaGreatDoorJ07GridCon
namespace Go.Proofs.YtangalkbjochjaaGreatDoor
open Go.RowKit Go.Lib

def entB (x : Bd) : Ent := ⟨x.k, x.px - exB x, x.py - eyB x, x.px + exB x, x.py + eyB x⟩
theorem ent_ok {x : Bd} (h : chkB x = 0) (hk : (Lit.int .u32 x.k).wf = true) : EntOk (entB x) := by
  obtain ⟨h1, h2, h3, h4⟩ := ext_B h
  refine ⟨hk, ⟨?_, ?_, ?_, ?_⟩, ?_⟩
  · show In3 (x.px - exB x); unfold In3; omega
  · show In3 (x.py - eyB x); unfold In3; omega
  · show In3 (x.px + exB x); unfold In3; omega
  · show In3 (x.py + eyB x); unfold In3; omega
  · show (cellsB (x.px - exB x) (x.py - eyB x) (x.px + exB x) (x.py + eyB x)).length ≤ 50
    unfold cellsB
    split
    · simp
    · rw [allC_len]
      have e1 : ncB (x.px - exB x) (x.px + exB x) ≤ 6 := by unfold ncB colN; omega
      have e2 : ncB (x.py - eyB x) (x.py + eyB x) ≤ 6 := by unfold ncB colN; omega
      have := Nat.mul_le_mul e2 e1
      omega
theorem ovP_ent (x y : Bd) : ovP x y = ovlB (entB x).a (entB x).b (entB x).c (entB x).d (entB y).a (entB y).b (entB y).c (entB y).d := rfl
/-- All pairs of keys of a view. -/
def allK : List Bd → List (Int × Int)
  | [] => []
  | x :: l => (l.map fun y => (x.k, y.k)) ++ allK l
theorem allK_len : ∀ L : List Bd, 2 * ((allK L).length : Int) = (L.length : Int) * ((L.length : Int) - 1)
  | [] => by simp [allK]
  | x :: l => by
    have h := allK_len l
    unfold allK
    rw [List.length_append, List.length_map, List.length_cons]
    generalize (allK l).length = a at *
    generalize l.length = n at *
    have e : ((n + 1 : Nat) : Int) * (((n + 1 : Nat) : Int) - 1) = (n : Int) * ((n : Int) - 1) + 2 * (n : Int) := by
      have e1 : ((n + 1 : Nat) : Int) = (n : Int) + 1 := by omega
      rw [e1]
      grind
    rw [e, ← h]
    omega
theorem allK_mem : ∀ {L : List Bd}, Asc L → ∀ p : Int × Int, p ∈ allK L ↔ ∃ x ∈ L, ∃ y ∈ L, x.k < y.k ∧ p = (x.k, y.k)
  | [], _, p => by simp [allK]
  | a :: l, h, p => by
    simp only [allK, List.mem_append, allK_mem h.2]
    constructor
    · rintro (hp | ⟨x, hx, y, hy, h1, rfl⟩)
      · obtain ⟨y, hy, rfl⟩ := List.mem_map.1 hp
        exact ⟨a, by simp, y, by simp [hy], h.1 y hy, rfl⟩
      · exact ⟨x, by simp [hx], y, by simp [hy], h1, rfl⟩
    · rintro ⟨x, hx, y, hy, h1, rfl⟩
      rcases List.mem_cons.1 hx with e | hx2
      · rcases List.mem_cons.1 hy with e2 | hy2
        · rw [e, e2] at h1; omega
        · rw [e]
          exact .inl (List.mem_map.2 ⟨y, hy2, rfl⟩)
      · rcases List.mem_cons.1 hy with e2 | hy2
        · have := h.1 x hx2; rw [e2] at h1; omega
        · exact .inr ⟨x, hx2, y, hy2, h1, rfl⟩
theorem allK_sort : ∀ {L : List Bd}, Asc L → SortS pless (allK L)
  | [], _ => List.Pairwise.nil
  | a :: l, h => by
    show List.Pairwise _ ((l.map fun y => (a.k, y.k)) ++ allK l)
    rw [List.pairwise_append]
    refine ⟨?_, allK_sort h.2, fun p hp q hq => ?_⟩
    · rw [List.pairwise_map]
      have hs : ∀ {m : List Bd}, Asc m → m.Pairwise fun y z => pless (a.k, y.k) (a.k, z.k) = true := by
        intro m hm
        induction m with
        | nil => exact List.Pairwise.nil
        | cons b m ih => exact List.Pairwise.cons (fun z hz => by have := hm.1 z hz; unfold pless; exact decide_eq_true (by dsimp only; omega)) (ih hm.2)
      exact hs h.2
    · obtain ⟨y, _, rfl⟩ := List.mem_map.1 hp
      obtain ⟨u, hu, v, _, _, rfl⟩ := (allK_mem h.2 q).1 hq
      have := h.1 u hu
      unfold pless
      exact decide_eq_true (by dsimp only; omega)
theorem cand_ent {L : List Bd} {p : Int × Int} : p ∈ candL (L.map entB) ↔ ∃ x ∈ L, ∃ y ∈ L, candT (entB x) (entB y) = true ∧ p = (x.k, y.k) := by
  rw [(candL_spec _).2]
  constructor
  · rintro ⟨e, he, f, hf, h, rfl⟩
    obtain ⟨x, hx, rfl⟩ := List.mem_map.1 he
    obtain ⟨y, hy, rfl⟩ := List.mem_map.1 hf
    exact ⟨x, hx, y, hy, h, rfl⟩
  · rintro ⟨x, hx, y, hy, h, rfl⟩
    exact ⟨entB x, List.mem_map_of_mem hx, entB y, List.mem_map_of_mem hy, h, rfl⟩
theorem cand_all {L : List Bd} (h : Asc L) : (candL (L.map entB)).length ≤ (allK L).length := by
  have e : candL (L.map entB) = (allK L).filter fun p => decide (p ∈ candL (L.map entB)) := by
    refine SortS.ext pless_strict (candL_spec _).1 ((allK_sort h).filter _) fun p => ?_
    rw [List.mem_filter, decide_eq_true_eq]
    refine ⟨fun q => ⟨?_, q⟩, fun q => q.2⟩
    obtain ⟨x, hx, y, hy, hc, rfl⟩ := cand_ent.1 q
    unfold candT at hc
    rw [Bool.and_eq_true] at hc
    exact (allK_mem h _).2 ⟨x, hx, y, hy, of_decide_eq_true hc.1, rfl⟩
  rw [e]
  exact List.length_filter_le _ _
/-- Whether a pair of keys is one of bodies whose boxes overlap. -/
def ovK (L : List Bd) (p : Int × Int) : Bool := match look L p.1, look L p.2 with
  | some x, some y => ovP x y
  | _, _ => false
theorem ovK_at {L : List Bd} (h : Asc L) {x y : Bd} (hx : x ∈ L) (hy : y ∈ L) : ovK L (x.k, y.k) = ovP x y := by
  unfold ovK
  rw [look_mem h.once hx, look_mem h.once hy]
theorem pairs_cand {L : List Bd} (h : Asc L) : pairsL L = (candL (L.map entB)).filter (ovK L) := by
  refine SortS.ext pless_strict (pairs_sort h) ((candL_spec _).1.filter _) fun p => ?_
  rw [pairs_mem h, List.mem_filter, cand_ent]
  constructor
  · rintro ⟨x, hx, y, hy, h1, h2, rfl⟩
    refine ⟨⟨x, hx, y, hy, ?_, rfl⟩, by rw [ovK_at h hx hy]; exact h2⟩
    unfold candT
    rw [Bool.and_eq_true]
    exact ⟨decide_eq_true h1, ovl_com (by rw [← ovP_ent]; exact h2)⟩
  · rintro ⟨⟨x, hx, y, hy, hc, rfl⟩, h2⟩
    rw [ovK_at h hx hy] at h2
    unfold candT at hc
    rw [Bool.and_eq_true] at hc
    exact ⟨x, hx, y, hy, of_decide_eq_true hc.1, h2, rfl⟩
end Go.Proofs.YtangalkbjochjaaGreatDoor
