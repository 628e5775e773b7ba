/-
  Package contacts: the contacts that a collector keeps, pair by pair (no program).
-/
import Derived.Test.YtangalkbjochjaaGreatDoorCtsMath
namespace Go.Proofs.YtangalkbjochjaaGreatDoor
open Go.RowKit Go.Lib

/-- What a pair of keys gives. -/
def conP (L : List Bd) (p : Int × Int) : List Ct := match look L p.1, look L p.2 with
  | some x, some y => if tchB x y = true then [conC x y] else []
  | _, _ => []
theorem conP_at {L : List Bd} (h : Asc L) {x y : Bd} (hx : x ∈ L) (hy : y ∈ L) : conP L (x.k, y.k) = if tchB x y = true then [conC x y] else [] := by
  unfold conP
  dsimp only
  rw [look_mem h.once hx, look_mem h.once hy]
theorem conP_one {L : List Bd} (h : Asc L) {x : Bd} (hx : x ∈ L) : ∀ m : List Bd, (∀ y ∈ m, y ∈ L) → (m.map fun y => (x.k, y.k)).flatMap (conP L) = (m.filter (tchB x)).map (conC x)
  | [], _ => rfl
  | y :: m, hm => by
    have ih := conP_one h hx m (fun z hz => hm z (by simp [hz]))
    rw [List.map_cons, List.flatMap_cons, ih, conP_at h hx (hm y (by simp))]
    by_cases c : tchB x y = true
    · rw [if_pos c, List.filter_cons_of_pos c, List.map_cons]
      rfl
    · rw [if_neg c, List.filter_cons_of_neg c]
      rfl
theorem conP_sub {L : List Bd} (h : Asc L) (hk : ∀ x ∈ L, okC x) : ∀ l : List Bd, (∀ y ∈ l, y ∈ L) → (pairsL l).flatMap (conP L) = consL l
  | [], _ => rfl
  | x :: l, hl => by
    have ih := conP_sub h hk l (fun z hz => hl z (by simp [hz]))
    have hx := hl x (by simp)
    show (prO x l ++ pairsL l).flatMap (conP L) = conO x l ++ consL l
    rw [List.flatMap_append, ih, conO_pr (hk x hx) (fun y hy => hk y (hl y (by simp [hy])))]
    unfold prO
    rw [conP_one h hx _ (fun y hy => hl y (by simp [(List.mem_filter.1 hy).1]))]
theorem conP_all {L : List Bd} (h : Asc L) (hk : ∀ x ∈ L, okC x) : (pairsL L).flatMap (conP L) = consL L := conP_sub h hk L (fun _ hy => hy)
theorem conP_snoc {L : List Bd} {C : List (Int × Int)} {j : Nat} {p : Int × Int} (h : C[j]? = some p) : (C.take (j + 1)).flatMap (conP L) = (C.take j).flatMap (conP L) ++ conP L p := by
  rw [List.take_add_one, h, List.flatMap_append]
  simp
theorem conP_le (L : List Bd) (p : Int × Int) : (conP L p).length ≤ 1 := by
  unfold conP
  split
  · split <;> simp
  · simp
theorem conP_len (L : List Bd) : ∀ C : List (Int × Int), (C.flatMap (conP L)).length ≤ C.length
  | [] => by simp
  | p :: C => by
    have h1 := conP_le L p
    have h2 := conP_len L C
    rw [List.flatMap_cons, List.length_append, List.length_cons]
    omega
end Go.Proofs.YtangalkbjochjaaGreatDoor
