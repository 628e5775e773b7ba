/-
  Package view's reference: three slices of keys in a struct, one of them appended to; the lists of a difference.
-/
import Derived.Test.YtllkokfaodpfiaaViewKeys
import Derived.Test.YtllkokfaodpfiaaViewSame
import Derived.Deep.AppendLies
namespace Go.Proofs.Ytllkokfaodpfiaa
open Go.RowKit Go.Lib

/-- The keys of L that M has not. -/
def remL (L M : List Bd) : List Int := (L.filter fun x => (look M x.k).isNone).map (·.k)
def chgB (M : List Bd) (x : Bd) : Bool := match look M x.k with
  | none => false
  | some y => !eqB y x
/-- The keys of L that M has with another body. -/
def chgL (L M : List Bd) : List Int := (L.filter (chgB M)).map (·.k)
theorem chg_none {M : List Bd} {x : Bd} (h : look M x.k = none) : chgB M x = false := by simp [chgB, h]
theorem chg_some {M : List Bd} {x y : Bd} (h : look M x.k = some y) : chgB M x = !eqB y x := by simp [chgB, h]
def diffC (L M : List Bd) : Ch := ⟨remL M L, remL L M, chgL L M⟩
theorem remL_take {L M : List Bd} {k : Nat} {x : Bd} (hx : L[k]? = some x) : remL (L.take (k + 1)) M = remL (L.take k) M ++ if (look M x.k).isNone then [x.k] else [] := by
  rw [List.take_add_one, hx]
  unfold remL
  rw [List.filter_append, List.map_append]
  congr 1
  cases c : (look M x.k).isNone <;> simp [c]
theorem chgL_take {L M : List Bd} {k : Nat} {x : Bd} (hx : L[k]? = some x) : chgL (L.take (k + 1)) M = chgL (L.take k) M ++ if chgB M x then [x.k] else [] := by
  rw [List.take_add_one, hx]
  unfold chgL
  rw [List.filter_append, List.map_append]
  congr 1
  cases c : chgB M x <;> simp [c]
theorem remL_len (L M : List Bd) (k : Nat) : (remL (L.take k) M).length ≤ k := by
  unfold remL
  rw [List.length_map]
  exact Nat.le_trans (List.length_filter_le _ _) (List.length_take_le k L)
theorem chgL_len (L M : List Bd) (k : Nat) : (chgL (L.take k) M).length ≤ k := by
  unfold chgL
  rw [List.length_map]
  exact Nat.le_trans (List.length_filter_le _ _) (List.length_take_le k L)

/-- The cells of a list of keys. -/
def kvs (K : List Int) : List Value := K.map (Value.int .u32)
/-- Block b holds three slices of keys that lie in blocks of their own. -/
structure Tri (b : Nat) (w : World) (V : Nat → Value) (K : Nat → List Int) : Prop where
  cell : ∀ i, i < 3 → w.cell? ⟨b, i, none⟩ = some (V i)
  fr : ∀ i, w.frozen? ⟨b, i, none⟩ = false
  own : ∀ i, i < 3 → w.ownsRow (b + 1) 42 1 (V i) (K i).length (kvs (K i))
  apart : ∀ i j g, i < 3 → j < 3 → (V i).ownBlock = some g → (V j).ownBlock = some g → i = j
theorem Tri.lt {b : Nat} {w : World} {V : Nat → Value} {K : Nat → List Int} (h : Tri b w V K) : b < w.heap.size := World.block_lt_of_cell? _ _ (h.cell 0 (by decide))
theorem Tri.drewN {b : Nat} {w : World} {V : Nat → Value} {K : Nat → List Int} (h : Tri b w V K) (n : Nat) : Tri b (w.drewN n) V K := ⟨h.cell, h.fr, h.own, h.apart⟩
theorem Tri.grown {b : Nat} {w w' : World} {V : Nat → Value} {K : Nat → List Int} (h : Tri b w V K) (g : w.grownBy w' none) : Tri b w' V K :=
  ⟨fun i hi => g.cell (h.cell i hi) (by simp), fun i => (World.frozen?_of_block (g.block b h.lt (by simp))).trans (h.fr i), fun i hi => (h.own i hi).kept g (by
    cases e : (V i).ownBlock with
    | none => exact .inl rfl
    | some x => exact .inr (by simp)), h.apart⟩
def upd {α : Type} (f : Nat → α) (j : Nat) (x : α) (i : Nat) : α := if i = j then x else f i
theorem sc_by (w : World) (b o : Nat) (u : Value) : w.grownBy (w.setCell ⟨b, o, none⟩ u) (some b) := ⟨rfl, rfl, rfl, by simp, fun k _ hk => heap_setCell_other w ⟨b, o, none⟩ k u (fun e => hk (by simp [e]))⟩
/-- One of them appended to. -/
theorem Tri.more {b : Nat} {w w4 : World} {V : Nat → Value} {K : Nat → List Int} (h : Tri b w V K) {j : Nat} (hj : j < 3) {x : Int} {g cap : Nat}
    (h4 : w4.ownsRow (b + 1) 42 1 (.slice (some ⟨g, 0, none⟩) ((K j).length + 1) cap) ((K j).length + 1) (kvs (K j) ++ [.int .u32 x])) (g4 : w.grownBy w4 (V j).ownBlock) (hat : (V j).ownBlock = some g ∨ w.heap.size ≤ g) :
    Tri b (w4.setCell ⟨b, j, none⟩ (.slice (some ⟨g, 0, none⟩) ((K j).length + 1) cap)) (upd V j (.slice (some ⟨g, 0, none⟩) ((K j).length + 1) cap)) (upd K j (K j ++ [x])) := by
  have hb : (V j).ownBlock ≠ some b := fun e => by have := ((h.own j hj).lt b e).1; omega
  have hc : ∀ i, i < 3 → w4.cell? ⟨b, i, none⟩ = some (V i) := fun i hi => g4.cell (h.cell i hi) (fun e => hb e.symm)
  have hbb : w4.heap[b]? = w.heap[b]? := g4.block b h.lt (fun e => hb e.symm)
  have gs := sc_by w4 b j (.slice (some ⟨g, 0, none⟩) ((K j).length + 1) cap)
  have hgb : g ≠ b := by
    rcases hat with e | e
    · exact fun q => hb (by rw [e, q])
    · have := h.lt; omega
  have hne : ∀ i, i < 3 → i ≠ j → (V i).ownBlock ≠ some g := fun i hi hij e => by
    rcases hat with q | q
    · exact hij (h.apart i j g hi hj e q)
    · have := ((h.own i hi).lt g e).2; omega
  refine ⟨fun i hi => ?_, fun i => ?_, fun i hi => ?_, fun i k x hi hk e1 e2 => ?_⟩
  · unfold upd
    by_cases e : i = j
    · subst e; rw [if_pos rfl]; exact World.cell?_setCell_same' _ _ _ (by rw [hc i hi]; rfl)
    · rw [if_neg e, World.cell?_setCell_other (h := by simp)]; exact hc i hi
  · exact (World.frozen?_setCell _ _ _ _).trans ((World.frozen?_of_block hbb).trans (h.fr i))
  · unfold upd
    by_cases e : i = j
    · subst e
      rw [if_pos rfl, if_pos rfl]
      have := h4.kept gs (.inr (by simpa [Value.ownBlock] using hgb))
      simpa [kvs] using this
    · rw [if_neg e, if_neg e]
      refine ((h.own i hi).kept g4 ?_).kept gs ?_
      · cases q : (V i).ownBlock with
        | none => exact .inl rfl
        | some y => exact .inr (fun r => e (h.apart i j y hi hj q r.symm))
      · exact .inr (fun r => by have := ((h.own i hi).lt b r).1; omega)
  · unfold upd at e1 e2
    by_cases c1 : i = j <;> by_cases c2 : k = j
    · omega
    · rw [if_pos c1] at e1
      rw [if_neg c2] at e2
      injection e1 with e1
      subst e1
      exact absurd e2 (hne k hk c2)
    · rw [if_neg c1] at e1
      rw [if_pos c2] at e2
      injection e2 with e2
      subst e2
      exact absurd e1 (hne i hi c1)
    · rw [if_neg c1] at e1
      rw [if_neg c2] at e2
      exact h.apart i k x hi hk e1 e2
theorem Tri.far {b c : Nat} {w w' : World} {V : Nat → Value} {K : Nat → List Int} (h : Tri b w V K) (g : w.grownBy w' (some c)) (hc : c < b) : Tri b w' V K :=
  ⟨fun i hi => g.cell (h.cell i hi) (by simp; omega), fun i => (World.frozen?_of_block (g.block b h.lt (by simp; omega))).trans (h.fr i), fun i hi => (h.own i hi).kept g (.inr (fun e => by have := ((h.own i hi).lt c e).1; omega)), h.apart⟩
theorem Tri.shape {b : Nat} {w : World} {V : Nat → Value} {K : Nat → List Int} (h : Tri b w V K) {i : Nat} (hi : i < 3) : ∃ base cap, V i = .slice base (K i).length cap := by
  rcases (h.own i hi).2 with ⟨e, h0⟩ | ⟨g, cap, _, e, _⟩
  · exact ⟨none, 0, by rw [e, h0]⟩
  · exact ⟨_, cap, e⟩
theorem own_klst {w : World} {B : Nat} {v : Value} {K : List Int} (h : w.ownsRow B 42 1 v K.length (kvs K)) : KLst w v K := by
  obtain ⟨_, ⟨rfl, h0⟩ | ⟨g, cap, cur, rfl, _, hg, hn, _, hs, hc⟩⟩ := h
  · exact .inl ⟨List.length_eq_zero_iff.1 h0, none, 0, rfl⟩
  · refine .inr ⟨g, 0, cap, rfl, fun k x hx => ?_⟩
    have hk : k < K.length := (List.getElem?_eq_some_iff.1 hx).1
    have e : (kvs K)[k]? = some (.int .u32 x) := by simp [kvs, hx]
    rw [← e, ← hc]
    simp only [World.cell?, hg]
    rw [List.getElem?_take_of_lt (by omega)]
    simp
theorem info_u32 : (Try.prog.info? 42).map (fun i => (i.zero, i.size, i.bytes)) = some (some (.int .u32 0), 1, 4) := by kernel_rfl
end Go.Proofs.Ytllkokfaodpfiaa
