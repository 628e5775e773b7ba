/-
  Package grid: what a grid is in memory.
-/
import Derived.Test.YtnmnbogjnjbopaaDoorGridPut
namespace Go.Proofs.YtnmnbogjnjbopaaDoor
open Go.RowKit Go.Lib

/-- Block g holds a grid of n entries, bucket j the slice vf j of the keys Kf j; its blocks are S. -/
structure GM (w : World) (g : Nat) (S : Nat → Prop) (n : Int) (vf : Nat → Value) (Kf : Nat → List Int) : Prop where
  c : ∀ j, j < 1024 → w.cell? ⟨g, j, none⟩ = some (vf j)
  cn : w.cell? ⟨g, 1024, none⟩ = some (.int .i64 n)
  fz : ∀ j, w.frozen? ⟨g, j, none⟩ = false
  own : ∀ j, j < 1024 → w.ownsRow 0 42 1 (vf j) (Kf j).length ((Kf j).flatMap kv)
  apart : ∀ i j, i < 1024 → j < 1024 → i ≠ j → ∀ k, (vf i).ownBlock = some k → (vf j).ownBlock ≠ some k
  off : ∀ j, j < 1024 → (vf j).ownBlock ≠ some g
  sg : S g
  sv : ∀ j, j < 1024 → ∀ k, (vf j).ownBlock = some k → S k
  only : ∀ k, S k → k = g ∨ ∃ j, j < 1024 ∧ (vf j).ownBlock = some k
  fac : Fac w
  nf : ¬ S 0
theorem GM.glt {w : World} {g : Nat} {S : Nat → Prop} {n : Int} {vf : Nat → Value} {Kf : Nat → List Int} (h : GM w g S n vf Kf) : g < w.heap.size := World.block_lt_of_cell? _ _ h.cn
theorem GM.lt {w : World} {g : Nat} {S : Nat → Prop} {n : Int} {vf : Nat → Value} {Kf : Nat → List Int} (h : GM w g S n vf Kf) : ∀ k, S k → k < w.heap.size := fun k hk => by
  rcases h.only k hk with rfl | ⟨j, hj, e⟩
  · exact h.glt
  · exact ((h.own j hj).lt k e).2
theorem own_block {w w' : World} {t : TypeId} {v : Value} {n : Nat} {xs : List Value} (h : w.ownsRow 0 t 1 v n xs) (hb : ∀ k, v.ownBlock = some k → w'.heap[k]? = w.heap[k]?) : w'.ownsRow 0 t 1 v n xs := by
  refine ⟨h.1, ?_⟩
  rcases h.2 with hn | ⟨g, cap, cur, rfl, hg, hgg, rest⟩
  · exact .inl hn
  · exact .inr ⟨g, cap, cur, rfl, hg, (hb g rfl).trans hgg, rest⟩
theorem GM.kept {w w' : World} {g : Nat} {S : Nat → Prop} {n : Int} {vf : Nat → Value} {Kf : Nat → List Int} (h : GM w g S n vf Kf) (hb : ∀ k, S k → w'.heap[k]? = w.heap[k]?) (F : Fac w') : GM w' g S n vf Kf where
  c j hj := (World.cell?_of_block (w := w) (hb g h.sg)).trans (h.c j hj)
  cn := (World.cell?_of_block (w := w) (hb g h.sg)).trans h.cn
  fz j := (World.frozen?_of_block (w := w) (hb g h.sg)).trans (h.fz j)
  own j hj := own_block (h.own j hj) fun k hk => hb k (h.sv j hj k hk)
  apart := h.apart
  off := h.off
  sg := h.sg
  sv := h.sv
  only := h.only
  fac := F
  nf := h.nf
theorem GM.kep {w w' : World} {g : Nat} {S : Nat → Prop} {n : Int} {vf : Nat → Value} {Kf : Nat → List Int} (h : GM w g S n vf Kf) (k : Kep w.heap.size w w') : GM w' g S n vf Kf := h.kept (fun j hj => k.block j (h.lt j hj)) (h.fac.kep k)
theorem Fac.oth {S : Nat → Prop} {w w' : World} (h : Fac w) (k : Oth S w w') (hn : ¬ S 0) : Fac w' := ⟨k.cell hn h.x, k.cell hn h.y⟩
/-- The number of entries stored. -/
theorem GM.count {w : World} {g : Nat} {S : Nat → Prop} {n : Int} {vf : Nat → Value} {Kf : Nat → List Int} (h : GM w g S n vf Kf) (m : Int) : GM (w.setCell ⟨g, 1024, none⟩ (.int .i64 m)) g S m vf Kf ∧ Oth S w (w.setCell ⟨g, 1024, none⟩ (.int .i64 m)) := by
  have o : Oth S w (w.setCell ⟨g, 1024, none⟩ (.int .i64 m)) := ⟨rfl, rfl, by simp, fun k hk hn => Below.heap_setCell w ⟨g, 1024, none⟩ _ k (fun e => hn (by rw [show k = g from e]; exact h.sg))⟩
  refine ⟨⟨fun j hj => ?_, ?_, fun j => ?_, fun j hj => own_block (h.own j hj) fun k hk => Below.heap_setCell w ⟨g, 1024, none⟩ _ k (fun e => h.off j hj (by rw [hk, show k = g from e])), h.apart, h.off, h.sg, h.sv, h.only, h.fac.oth o h.nf, h.nf⟩, o⟩
  · rw [World.cell?_setCell_other (h := fun e => by injection e with _ e; omega)]
    exact h.c j hj
  · rw [World.cell?_setCell_same' _ _ _ (by rw [h.cn]; rfl)]
  · rw [World.frozen?_setCell]; exact h.fz j
def updF {α : Type} (f : Nat → α) (i : Nat) (x : α) : Nat → α := fun j => if j = i then x else f j
theorem updF_same {α : Type} (f : Nat → α) (i : Nat) (x : α) : updF f i x i = x := if_pos rfl
theorem updF_ne {α : Type} {f : Nat → α} {i j : Nat} {x : α} (h : j ≠ i) : updF f i x j = f j := if_neg h
/-- A bucket's list replaced by what Insert has made of it. -/
theorem GM.stored {w w1 : World} {g : Nat} {S : Nat → Prop} {n : Int} {vf : Nat → Value} {Kf : Nat → List Int} (h : GM w g S n vf Kf) {i : Nat} (hi : i < 1024) {R : List Int} {v' : Value} (k : Ins w (vf i) R v' w1) :
    ∃ S', GM (w1.setCell ⟨g, i, none⟩ v') g S' n (updF vf i v') (updF Kf i R) ∧ More w S S' ∧ Oth S w (w1.setCell ⟨g, i, none⟩ v') := by
  obtain ⟨k1, k2, k3⟩ := k
  have hgi : ∀ q, (vf i).ownBlock = some q → q ≠ g := fun q e c => h.off i hi (by rw [e, c])
  have hlt : ∀ j, j < 1024 → ∀ q, (vf j).ownBlock = some q → q < w.heap.size := fun j hj q e => ((h.own j hj).lt q e).2
  have hg' : ∀ q, v'.ownBlock = some q → q ≠ g := fun q e c => by
    rcases k3 q e with e2 | e2
    · exact hgi q e2 c
    · have := h.glt; omega
  have o : Oth S w (w1.setCell ⟨g, i, none⟩ v') := ⟨k2.os, k2.output, by rw [World.size_setCell]; exact k2.size, fun q hq hn => by
    rw [Below.heap_setCell w1 ⟨g, i, none⟩ _ q (fun e => hn (by rw [show q = g from e]; exact h.sg))]
    exact k2.block q hq fun e => hn (h.sv i hi q e)⟩
  have bg : w1.heap[g]? = w.heap[g]? := k2.block g h.glt (fun e => hgi g e rfl)
  refine ⟨fun q => q = g ∨ ∃ j, j < 1024 ∧ (updF vf i v' j).ownBlock = some q, ⟨fun j hj => ?_, ?_, fun j => ?_, fun j hj => ?_, fun a b ha hb hab q e => ?_, fun j hj => ?_, .inl rfl, fun j hj q e => .inr ⟨j, hj, e⟩, fun q hq => hq, h.fac.oth o h.nf, ?_⟩, ?_, o⟩
  · by_cases c : j = i
    · subst c
      rw [World.cell?_setCell_same' _ _ _ (by rw [World.cell?_of_block (w := w) bg, h.c j hj]; rfl), updF_same]
    · rw [World.cell?_setCell_other (h := fun e => by injection e with _ e; exact c e.symm), updF_ne c, World.cell?_of_block (w := w) bg]
      exact h.c j hj
  · rw [World.cell?_setCell_other (h := fun e => by injection e with _ e; omega), World.cell?_of_block (w := w) bg]
    exact h.cn
  · rw [World.frozen?_setCell, World.frozen?_of_block (w := w) bg]
    exact h.fz j
  · by_cases c : j = i
    · subst c
      rw [updF_same, updF_same]
      exact own_block k1 fun q e => Below.heap_setCell w1 ⟨g, j, none⟩ _ q (hg' q e)
    · rw [updF_ne c, updF_ne c]
      refine own_block (h.own j hj) fun q e => ?_
      rw [Below.heap_setCell w1 ⟨g, i, none⟩ _ q (fun c => h.off j hj (by rw [e, show q = g from c]))]
      exact k2.block q (hlt j hj q e) (fun c' => h.apart j i hj hi c q e c')
  · by_cases c : a = i
    · subst c
      rw [updF_same] at e
      rw [updF_ne (fun e => hab e.symm)]
      intro e2
      rcases k3 q e with e3 | e3
      · exact h.apart a b ha hb hab q e3 e2
      · have := hlt b hb q e2; omega
    · rw [updF_ne c] at e
      by_cases d : b = i
      · subst d
        rw [updF_same]
        intro e2
        rcases k3 q e2 with e3 | e3
        · exact h.apart a b ha hb hab q e e3
        · have := hlt a ha q e; omega
      · rw [updF_ne d]
        exact h.apart a b ha hb hab q e
  · by_cases c : j = i
    · subst c
      rw [updF_same]
      exact fun e => hg' g e rfl
    · rw [updF_ne c]
      exact h.off j hj
  · rintro (e | ⟨j, hj, e⟩)
    · exact h.nf (by rw [e]; exact h.sg)
    · by_cases c : j = i
      · subst c
        rw [updF_same] at e
        rcases k3 _ e with e2 | e2
        · exact h.nf (h.sv j hj _ e2)
        · have := h.fac.lt; omega
      · rw [updF_ne c] at e
        exact h.nf (h.sv j hj _ e)
  · rintro q (rfl | ⟨j, hj, e⟩)
    · exact .inl h.sg
    · by_cases c : j = i
      · subst c
        rw [updF_same] at e
        rcases k3 q e with e2 | e2
        · exact .inl (h.sv j hj q e2)
        · exact .inr e2
      · rw [updF_ne c] at e
        exact .inl (h.sv j hj q e)
/-- The buckets of the entries of L, some with a further key. -/
def kf (L : List Ent) (key : Int) (bs : List Int) (j : Nat) : List Int := if bs.contains (j : Int) = true then putS kless (atL L j) key else atL L j
theorem kf_nil (L : List Ent) (key : Int) : kf L key [] = fun (j : Nat) => atL L (j : Int) := by funext j; simp [kf]
theorem kf_asc (L : List Ent) (key : Int) (bs : List Int) (j : Nat) : SortS kless (kf L key bs j) := by
  unfold kf
  split
  · exact putS_sort kless_strict (atL_spec L j).1
  · exact (atL_spec L j).1
theorem kf_len {L : List Ent} (hl : L.length ≤ 100) (key : Int) (bs : List Int) (j : Nat) : (kf L key bs j).length ≤ 1000 := by
  have h := accA_len L (j : Int) L.length (Nat.le_refl _)
  rw [accA_all (Nat.le_refl _)] at h
  unfold kf
  split
  · have := putS_len kless (atL L (j : Int)) key
    omega
  · omega
theorem kf_step (L : List Ent) (key : Int) (bs : List Int) (i : Nat) : kf L key (bs ++ [(i : Int)]) = updF (kf L key bs) i (putS kless (kf L key bs i) key) := by
  funext j
  by_cases c : j = i
  · subst c
    rw [updF_same]
    unfold kf
    rw [if_pos (by simp)]
    split
    · rw [putS_has (putS_sort kless_strict (atL_spec L j).1) ((putS_mem kless_strict (atL_spec L j).1).2 (.inl rfl))]
    · rfl
  · rw [updF_ne c]
    have e : (bs ++ [(i : Int)]).contains (j : Int) = bs.contains (j : Int) := by
      rw [Bool.eq_iff_iff]
      simp
      exact fun e => absurd (Int.ofNat.inj e) c
    unfold kf
    rw [e]
theorem kf_all (L : List Ent) (e : Ent) : kf L e.k (bksE e) = fun (j : Nat) => atL (L ++ [e]) (j : Int) := by
  funext j
  unfold kf
  show _ = (L ++ [e]).foldl _ []
  rw [List.foldl_append]
  rfl
/-- Block g holds a grid with the entries L. -/
def GI (w : World) (g : Nat) (S : Nat → Prop) (L : List Ent) : Prop := ∃ vf, GM w g S L.length vf fun (j : Nat) => atL L (j : Int)
theorem bkt_in (x y : Int) : 0 ≤ bktN x y ∧ bktN x y < 1024 := by
  unfold bktN
  constructor
  · omega
  · omega
end Go.Proofs.YtnmnbogjnjbopaaDoor
