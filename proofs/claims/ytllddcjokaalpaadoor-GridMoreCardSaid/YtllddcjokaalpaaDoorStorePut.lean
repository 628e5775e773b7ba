/-
  Package store's reference: Put.
-/
import Derived.Test.YtllddcjokaalpaaDoorStoreFind
import Derived.Test.YtllddcjokaalpaaDoorKep
import Derived.Deep.QuietTactic
import Derived.BigQuiet
namespace Go.Proofs.YtllddcjokaalpaaDoor
open Go.RowKit Go.Lib

/-- The cells of a list of bodies. -/
def flat (l : List Bd) : List Value := l.flatMap vals
theorem flat_snoc (l : List Bd) (b : Bd) : flat (l ++ [b]) = flat l ++ vals b := by simp [flat]
theorem news_at (W : World) (n : Nat) (hn : n = W.heap.size) (x : Bd) (t : TypeId) : ∀ (j : Nat) (u : Value), (vals x)[j]? = some u → (W.alloc (.cells #[.int .u32 x.k, .int .i32 x.r, .int .i32 x.ax, .int .i32 x.ay, .int .i32 x.m, .int .i32 x.o, .int .i32 x.px, .int .i32 x.py, .int .i32 x.vx, .int .i32 x.vy] t)).cell? ((⟨n, 0, none⟩ : Addr).add j) = some u := fun j u h => by
  subst hn
  have e : ((⟨W.heap.size, 0, none⟩ : Addr).add j) = ⟨W.heap.size, j, none⟩ := by simp [Addr.add]; exact Eq.symm
  rw [e, World.cell?_alloc_at _ _ _ _ rfl]
  have q : #[.int .u32 x.k, .int .i32 x.r, .int .i32 x.ax, .int .i32 x.ay, .int .i32 x.m, .int .i32 x.o, .int .i32 x.px, .int .i32 x.py, .int .i32 x.vx, .int .i32 x.vy] = (vals x).toArray := rfl
  rw [q]
  simpa using h
theorem one_cell (x : Bd) : ∀ u ∈ vals x, u.oneCell' = true := by
  intro u hu
  simp only [vals, List.mem_cons, List.not_mem_nil, or_false] at hu
  rcases hu with rfl | rfl | rfl | rfl | rfl | rfl | rfl | rfl | rfl | rfl <;> rfl
theorem _root_.Go.World.ownsRow.dn {w : World} {base : Nat} {e : TypeId} {size : Nat} {v : Value} {m n : Nat} {xs : List Value} (h : w.ownsRow base e size v n xs) : (w.drewN m).ownsRow base e size v n xs := h
theorem Kep.drewN {B : Nat} {a w : World} (h : Kep B a w) (m : Nat) : Kep B a (w.drewN m) := ⟨h.os, h.output, h.size, h.block⟩
theorem flat_get : ∀ (s : List Bd) (k : Nat) (b : Bd), s[k]? = some b → ∀ i, i < 10 → (flat s)[k * 10 + i]? = (vals b)[i]?
  | [], _, _, h, _, _ => by simp at h
  | x :: s, 0, b, h, i, hi => by
    simp at h
    subst h
    have l : (vals x).length = 10 := rfl
    simp only [flat, List.flatMap_cons]
    rw [List.getElem?_append_left (by rw [l]; omega)]
    simp
  | x :: s, k + 1, b, h, i, hi => by
    have l : (vals x).length = 10 := rfl
    have e := flat_get s k b (by simpa using h) i hi
    simp only [flat, List.flatMap_cons] at e ⊢
    rw [List.getElem?_append_right (by rw [l]; omega), l, show (k + 1) * 10 + i - 10 = k * 10 + i by omega]
    exact e
/-- What the slice v lies in is new. -/
def Roomy (v : Value) : Prop := ∀ b n c, v = .slice b n c → n ≤ c
theorem roomy_nil : Roomy (.slice none 0 0) := fun b n c e => by injection e with _ e1 e2; omega
def New (w : World) (v : Value) (w' : World) : Prop := (∀ g, v.ownBlock = some g → w.heap.size ≤ g ∧ g < w'.heap.size) ∧ Roomy v
theorem new_nil (w w' : World) : New w (.slice none 0 0) w' := ⟨(fun g q => by cases q), roomy_nil⟩
theorem put_done {L s : List Bd} {b : Bd} {gone d : Bool} {k : Nat} (hs : putTo b gone (L.take k) = (s, d)) (hk : L.length ≤ k) : put L b gone = if d then s else s ++ [b] := by
  rw [List.take_of_length_le hk] at hs
  unfold put
  rw [hs]

end Go.Proofs.YtllddcjokaalpaaDoor
