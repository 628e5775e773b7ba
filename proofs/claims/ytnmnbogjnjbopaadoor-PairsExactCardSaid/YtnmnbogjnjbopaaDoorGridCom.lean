/-
  Package grid: which entries have a bucket in common (no program).
-/
import Derived.Test.YtnmnbogjnjbopaaDoorGridMath
import Derived.Test.YtnmnbogjnjbopaaDoorBoxAll
namespace Go.Proofs.YtnmnbogjnjbopaaDoor
open Go.RowKit Go.Lib

theorem cand_less {L : List Ent} {p : Int × Int} (h : p ∈ candL L) : p.1 < p.2 := by
  obtain ⟨a, _, b, _, hc, rfl⟩ := ((candL_spec L).2 p).1 h
  unfold candT at hc
  rw [Bool.and_eq_true] at hc
  exact of_decide_eq_true hc.1
theorem cand_asc {L : List Ent} {k : Nat} {p q : Int × Int} (hp : (candL L)[k]? = some p) (hq : (candL L)[k + 1]? = some q) : pless p q = true := by
  obtain ⟨h1, e1⟩ := List.getElem?_eq_some_iff.1 hp
  obtain ⟨h2, e2⟩ := List.getElem?_eq_some_iff.1 hq
  have := List.pairwise_iff_getElem.1 (candL_spec L).1 k (k + 1) h1 h2 (by omega)
  rw [e1, e2] at this
  exact this
theorem cells_mem {a b c d x y : Int} (h : ¬ (c < a ∨ d < b)) (hx : colN a ≤ x ∧ x ≤ colN c) (hy : colN b ≤ y ∧ y ≤ colN d) : (x, y) ∈ cellsB a b c d := by
  unfold cellsB
  rw [show empB a b c d = false from decide_eq_false h, if_neg (by simp), allC_mem]
  unfold ncB
  omega
theorem ovl_com {x y : Ent} (h : ovlB x.a x.b x.c x.d y.a y.b y.c y.d = true) : comE x y = true := by
  have h := of_decide_eq_true h
  have h1 := colN_le (show y.a ≤ x.c by omega)
  have h2 := colN_le (show x.a ≤ y.c by omega)
  have h3 := colN_le (show y.b ≤ x.d by omega)
  have h4 := colN_le (show x.b ≤ y.d by omega)
  have g1 := colN_le (show x.a ≤ x.c by omega)
  have g2 := colN_le (show y.a ≤ y.c by omega)
  have g3 := colN_le (show x.b ≤ x.d by omega)
  have g4 := colN_le (show y.b ≤ y.d by omega)
  have m1 : (max (colN x.a) (colN y.a), max (colN x.b) (colN y.b)) ∈ cellsB x.a x.b x.c x.d := cells_mem (by omega) (by omega) (by omega)
  have m2 : (max (colN x.a) (colN y.a), max (colN x.b) (colN y.b)) ∈ cellsB y.a y.b y.c y.d := cells_mem (by omega) (by omega) (by omega)
  unfold comE bksE bksB
  rw [List.any_eq_true]
  exact ⟨_, List.mem_map_of_mem m1, by rw [List.contains_iff_mem]; exact List.mem_map_of_mem m2⟩
theorem cand_has {L : List Ent} {x y : Ent} (hx : x ∈ L) (hy : y ∈ L) (hk : x.k < y.k) (h : ovlB x.a x.b x.c x.d y.a y.b y.c y.d = true) : (candL L).contains (x.k, y.k) = true := by
  rw [List.contains_iff_mem, (candL_spec L).2]
  exact ⟨x, hx, y, hy, by unfold candT; rw [decide_eq_true hk, ovl_com h]; rfl, rfl⟩
end Go.Proofs.YtnmnbogjnjbopaaDoor
