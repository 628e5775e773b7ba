import Derived.Test.YtlabeelbbkbkaaaJ00DivArith
import Derived.Test.YtlabeelbbkbkaaaJ01FxRef
import Derived.Deep.QuietTactic
import Derived.BigQuiet
import Derived.Deep.DeepCutAuto
import Derived.StillTailTactics

/-! J05BoxMath: BoxMath, SortMath, GridMath, Blk, FrO, ImpRef. -/

section
/-
  Package box: boxes as numbers (no program).
-/
namespace Go.Proofs.Ytlabeelbbkbkaaa

/-- The box is empty. -/
def empB (a b c d : Int) : Bool := decide (c < a ∨ d < b)
def ovlB (a b c d e f g h : Int) : Bool := decide (a ≤ c ∧ b ≤ d ∧ e ≤ g ∧ f ≤ h ∧ a ≤ g ∧ e ≤ c ∧ b ≤ h ∧ f ≤ d)
def conB (a b c d x y : Int) : Bool := decide (a ≤ x ∧ x ≤ c ∧ b ≤ y ∧ y ≤ d)
abbrev Q4 := Int × Int × Int × Int
def meeQ (a b c d e f g h : Int) : Q4 := if ovlB a b c d e f g h = true then (max a e, max b f, min c g, min d h) else (1, 0, 0, 0)
def uniQ (a b c d e f g h : Int) : Q4 := if empB a b c d = true then (if empB e f g h = true then (1, 0, 0, 0) else (e, f, g, h)) else if empB e f g h = true then (a, b, c, d) else (min a e, min b f, max c g, max d h)
end Go.Proofs.Ytlabeelbbkbkaaa
end

section
/-
  Lists without duplicates in ascending order: an element put in its place; such a list is given by its members (no program).
-/
namespace Go.Proofs.Ytlabeelbbkbkaaa

/-- A strict order, as a test. -/
structure Strict {α : Type} (lt : α → α → Bool) : Prop where
  irr : ∀ a, lt a a = false
  trans : ∀ {a b c}, lt a b = true → lt b c = true → lt a c = true
  tri : ∀ a b, lt a b = false → lt b a = false → a = b
def SortS {α : Type} (lt : α → α → Bool) (l : List α) : Prop := l.Pairwise fun a b => lt a b = true
def dropOne {α : Type} [DecidableEq α] (p : α) : List α → List α
  | [] => []
  | x :: r => if x = p then r else x :: r
/-- p put into l at its place, unless it is there. -/
def putS {α : Type} [DecidableEq α] (lt : α → α → Bool) (l : List α) (p : α) : List α := l.takeWhile (fun x => lt x p) ++ p :: dropOne p (l.dropWhile fun x => lt x p)
section
variable {α : Type} [DecidableEq α] {lt : α → α → Bool}
theorem putS_nil (p : α) : putS lt [] p = [p] := rfl
theorem putS_cons (x : α) (l : List α) (p : α) : putS lt (x :: l) p = if lt x p = true then x :: putS lt l p else p :: dropOne p (x :: l) := by
  unfold putS
  by_cases h : lt x p = true
  · rw [if_pos h, List.takeWhile_cons_of_pos (by simpa using h), List.dropWhile_cons_of_pos (by simpa using h)]; rfl
  · rw [if_neg h, List.takeWhile_cons_of_neg (by simpa using h), List.dropWhile_cons_of_neg (by simpa using h)]; rfl
theorem dropOne_cons (p x : α) (r : List α) : dropOne p (x :: r) = if x = p then r else x :: r := rfl
theorem dropOne_sub (p : α) (l : List α) : (dropOne p l).Sublist l := by
  cases l with
  | nil => exact List.Sublist.refl _
  | cons x r =>
    rw [dropOne_cons]
    split
    · exact List.sublist_cons_self _ _
    · exact List.Sublist.refl _
theorem SortS.lt_all (H : Strict lt) {x p : α} {l : List α} (h : SortS lt (x :: l)) (hx : lt x p = false) : ∀ y ∈ dropOne p (x :: l), lt p y = true := by
  have h1 := List.pairwise_cons.1 h
  intro y hy
  rw [dropOne_cons] at hy
  split at hy
  · rename_i e
    subst e
    exact h1.1 y hy
  · rename_i e
    have hp : lt p x = true := by
      cases q : lt p x
      · exact absurd (H.tri _ _ hx q) e
      · rfl
    rcases List.mem_cons.1 hy with rfl | hy
    · exact hp
    · exact H.trans hp (h1.1 y hy)
theorem putS_mem (H : Strict lt) : ∀ {l : List α} {p x : α}, SortS lt l → (x ∈ putS lt l p ↔ x = p ∨ x ∈ l)
  | [], p, x, _ => by simp [putS_nil]
  | y :: l, p, x, h => by
    have h1 := List.pairwise_cons.1 h
    rw [putS_cons]
    split
    · rw [List.mem_cons, putS_mem H h1.2, List.mem_cons]
      constructor
      · rintro (a | a | a)
        · exact .inr (.inl a)
        · exact .inl a
        · exact .inr (.inr a)
      · rintro (a | a | a)
        · exact .inr (.inl a)
        · exact .inl a
        · exact .inr (.inr a)
    · rw [dropOne_cons]
      split
      · rename_i e
        subst e
        simp
      · simp
theorem putS_sort (H : Strict lt) : ∀ {l : List α} {p : α}, SortS lt l → SortS lt (putS lt l p)
  | [], p, _ => by rw [putS_nil]; exact List.pairwise_singleton _ _
  | y :: l, p, h => by
    have h1 := List.pairwise_cons.1 h
    rw [putS_cons]
    split
    · rename_i hy
      refine List.pairwise_cons.2 ⟨fun z hz => ?_, putS_sort H h1.2⟩
      rcases (putS_mem H h1.2).1 hz with rfl | hz
      · exact hy
      · exact h1.1 z hz
    · rename_i hy
      exact List.pairwise_cons.2 ⟨SortS.lt_all H h (by simpa using hy), List.Pairwise.sublist (dropOne_sub _ _) h⟩
omit [DecidableEq α] in
theorem SortS.ext (H : Strict lt) : ∀ {a b : List α}, SortS lt a → SortS lt b → (∀ x, x ∈ a ↔ x ∈ b) → a = b
  | [], [], _, _, _ => rfl
  | [], y :: b, _, _, h => absurd ((h y).2 (by simp)) (by simp)
  | x :: a, [], _, _, h => absurd ((h x).1 (by simp)) (by simp)
  | x :: a, y :: b, ha, hb, h => by
    have a1 := List.pairwise_cons.1 ha
    have b1 := List.pairwise_cons.1 hb
    have no : ∀ u v : α, lt u v = true → lt v u = true → False := fun u v h1 h2 => by
      have := H.trans h1 h2
      rw [H.irr] at this
      cases this
    have e : x = y := by
      rcases List.mem_cons.1 ((h x).1 (by simp)) with e | e
      · exact e
      · rcases List.mem_cons.1 ((h y).2 (by simp)) with q | q
        · exact q.symm
        · exact (no x y (a1.1 y q) (b1.1 x e)).elim
    subst e
    rw [SortS.ext H a1.2 b1.2 fun z => ?_]
    have hz := h z
    rw [List.mem_cons, List.mem_cons] at hz
    have out : ∀ {l : List α}, (∀ z ∈ l, lt x z = true) → z ∈ l → z ≠ x := fun hl hm e => by
      have := hl z hm
      rw [e, H.irr] at this
      cases this
    constructor
    · intro hm
      rcases hz.1 (.inr hm) with q | q
      · exact absurd q (out a1.1 hm)
      · exact q
    · intro hm
      rcases hz.2 (.inr hm) with q | q
      · exact absurd q (out b1.1 hm)
      · exact q
/-- All elements of a list that pass a test, put one after another. -/
theorem fold_put (H : Strict lt) {β : Type} (f : β → α) (t : β → Bool) : ∀ (L : List β) (acc : List α), SortS lt acc →
    SortS lt (L.foldl (fun acc y => if t y = true then putS lt acc (f y) else acc) acc) ∧ ∀ x, x ∈ L.foldl (fun acc y => if t y = true then putS lt acc (f y) else acc) acc ↔ x ∈ acc ∨ ∃ y ∈ L, t y = true ∧ x = f y
  | [], acc, h => ⟨h, fun x => by simp⟩
  | y :: L, acc, h => by
    rw [List.foldl_cons]
    by_cases c : t y = true
    · rw [if_pos c]
      obtain ⟨i1, i2⟩ := fold_put H f t L (putS lt acc (f y)) (putS_sort H h)
      refine ⟨i1, fun x => ?_⟩
      rw [i2, putS_mem H h]
      constructor
      · rintro ((rfl | a) | ⟨z, hz, hc, rfl⟩)
        · exact .inr ⟨y, by simp, c, rfl⟩
        · exact .inl a
        · exact .inr ⟨z, by simp [hz], hc, rfl⟩
      · rintro (a | ⟨z, hz, hc, rfl⟩)
        · exact .inl (.inr a)
        · rcases List.mem_cons.1 hz with rfl | hz
          · exact .inl (.inl rfl)
          · exact .inr ⟨z, hz, hc, rfl⟩
    · rw [if_neg c]
      obtain ⟨i1, i2⟩ := fold_put H f t L acc h
      refine ⟨i1, fun x => ?_⟩
      rw [i2]
      constructor
      · rintro (a | ⟨z, hz, hc, rfl⟩)
        · exact .inl a
        · exact .inr ⟨z, by simp [hz], hc, rfl⟩
      · rintro (a | ⟨z, hz, hc, rfl⟩)
        · exact .inl a
        · rcases List.mem_cons.1 hz with rfl | hz
          · exact absurd hc c
          · exact .inr ⟨z, hz, hc, rfl⟩
end
/-- Numbers, and pairs of numbers, in their order. -/
def kless (a b : Int) : Bool := decide (a < b)
def pless (p q : Int × Int) : Bool := decide (p.1 < q.1 ∨ p.1 = q.1 ∧ p.2 < q.2)
theorem kless_strict : Strict kless := ⟨fun a => decide_eq_false (by omega), fun {a b c} h1 h2 => by
  have h1 := of_decide_eq_true h1
  have h2 := of_decide_eq_true h2
  exact decide_eq_true (by omega), fun a b h1 h2 => by
  have h1 := of_decide_eq_false h1
  have h2 := of_decide_eq_false h2
  omega⟩
theorem pless_strict : Strict pless := ⟨fun a => decide_eq_false (by omega), fun {a b c} h1 h2 => by
  have h1 := of_decide_eq_true h1
  have h2 := of_decide_eq_true h2
  exact decide_eq_true (by omega), fun a b h1 h2 => by
  have h1 := of_decide_eq_false h1
  have h2 := of_decide_eq_false h2
  exact Prod.ext (by omega) (by omega)⟩
end Go.Proofs.Ytlabeelbbkbkaaa
end

section
/-
  Package grid: entries, their buckets, candidates as numbers and lists (no program).
-/
namespace Go.Proofs.Ytlabeelbbkbkaaa
open Go.RowKit Go.Lib

def kv (n : Int) : List Value := [.int .u32 n]
end Go.Proofs.Ytlabeelbbkbkaaa
end

section
/-
  A block of the call's own that holds a struct: its cells at once, and a struct stored into it (no program).
-/
namespace Go.Proofs.Ytlabeelbbkbkaaa
open Go.RowKit Go.Lib

/-- The cells of block b from 0 on are vs, and none of the block's cells is frozen. -/
structure ZC (w : World) (b : Nat) (vs : List Value) : Prop where
  at_ : ∀ (i : Nat) (u : Value), vs[i]? = some u → w.cell? ⟨b, i, none⟩ = some u
  frz : ∀ i, w.frozen? ⟨b, i, none⟩ = false
  lt : b < w.heap.size
theorem ZC.kep {w w' : World} {b : Nat} {vs : List Value} (h : ZC w b vs) (g : Kep w.heap.size w w') : ZC w' b vs :=
  ⟨fun i u hu => g.all (h.at_ i u hu), fun i => (g.frozen (p := ⟨b, i, none⟩) h.lt).trans (h.frz i), Nat.lt_of_lt_of_le h.lt g.size⟩
theorem ZC.drew {w : World} {b : Nat} {vs : List Value} (h : ZC w b vs) : ZC w.drew b vs := h.kep (kep_drew (Kep.refl _ _))
theorem ZC.more {w : World} {b : Nat} {vs : List Value} (h : ZC w b vs) (o : Obj) : ZC (w.alloc o) b vs := h.kep (kep_more (Kep.refl _ _) o)
theorem zc_new (w : World) (l : List Value) (t : TypeId) : ZC (w.alloc (.cells ⟨l⟩ t)) w.heap.size l := by
  refine ⟨fun i u hu => ?_, fun i => ?_, by simp⟩
  · rw [World.cell?_alloc_at _ _ _ _ rfl]
    simpa using hu
  · exact World.frozen?_alloc_at _ _ _ _ rfl
/-- A struct stored cell by cell. -/
def setAll (w : World) (b : Nat) : Nat → List Value → World
  | _, [] => w
  | o, v :: l => setAll (w.setCell ⟨b, o, none⟩ v) b (o + 1) l
theorem setAll_size (b : Nat) : ∀ (l : List Value) (o : Nat) (w : World), (setAll w b o l).heap.size = w.heap.size
  | [], _, _ => rfl
  | v :: l, o, w => by
    unfold setAll
    rw [setAll_size b l, World.size_setCell]
theorem setAll_froz (b : Nat) : ∀ (l : List Value) (o : Nat) (w : World) (a : Addr), (setAll w b o l).frozen? a = w.frozen? a
  | [], _, _, _ => rfl
  | v :: l, o, w, a => by
    unfold setAll
    rw [setAll_froz b l, World.frozen?_setCell]
theorem setAll_far (b : Nat) : ∀ (l : List Value) (o : Nat) (w : World) {c i : Nat} {u : Value}, c ≠ b → w.cell? ⟨c, i, none⟩ = some u → (setAll w b o l).cell? ⟨c, i, none⟩ = some u
  | [], _, _, _, _, _, _, h => h
  | v :: l, o, w, c, i, u, hc, h => by
    unfold setAll
    exact setAll_far b l (o + 1) _ hc (sset_far h (fun e => hc e.symm))
theorem setAll_low (b : Nat) : ∀ (l : List Value) (o : Nat) (w : World) {i : Nat} {u : Value}, i < o → w.cell? ⟨b, i, none⟩ = some u → (setAll w b o l).cell? ⟨b, i, none⟩ = some u
  | [], _, _, _, _, _, h => h
  | v :: l, o, w, i, u, hi, h => by
    unfold setAll
    refine setAll_low b l (o + 1) _ (by omega) ?_
    rw [World.cell?_setCell_other (h := by intro e; injection e with _ e2; omega)]
    exact h
theorem setAll_at (b : Nat) : ∀ (l : List Value) (o : Nat) (w : World), (∀ j, j < l.length → (w.cell? ⟨b, o + j, none⟩).isSome = true) → ∀ (i : Nat) (u : Value), l[i]? = some u → (setAll w b o l).cell? ⟨b, o + i, none⟩ = some u
  | [], _, _, _, _, _, h => by simp at h
  | v :: l, o, w, hs, 0, u, h => by
    simp at h
    subst h
    unfold setAll
    refine setAll_low b l (o + 1) _ (by omega) ?_
    exact World.cell?_setCell_same' _ _ _ (hs 0 (by simp))
  | v :: l, o, w, hs, i + 1, u, h => by
    unfold setAll
    have := setAll_at b l (o + 1) (w.setCell ⟨b, o, none⟩ v) (fun j hj => sset_some _ _ _ (by
      have := hs (j + 1) (by simp; omega)
      rw [show o + 1 + j = o + (j + 1) by omega]
      exact this)) i u (by simpa using h)
    rw [show o + (i + 1) = o + 1 + i by omega]
    exact this
theorem ZC.set {w : World} {b : Nat} {vs : List Value} (h : ZC w b vs) (us : List Value) (hl : us.length ≤ vs.length) : ZC (setAll w b 0 us) b us := by
  refine ⟨fun i u hu => ?_, fun i => by rw [setAll_froz]; exact h.frz i, by rw [setAll_size]; exact h.lt⟩
  have := setAll_at b us 0 w (fun j hj => by
    rw [Nat.zero_add]
    have hj2 : j < vs.length := by omega
    rw [h.at_ j _ (List.getElem?_eq_getElem hj2)]
    rfl) i u hu
  rw [Nat.zero_add] at this
  exact this
theorem kep_setAll {a : World} {b : Nat} (hb : a.heap.size ≤ b) : ∀ (l : List Value) (o : Nat) {w : World}, Kep a.heap.size a w → Kep a.heap.size a (setAll w b o l)
  | [], _, _, h => h
  | v :: l, o, w, h => by
    unfold setAll
    exact kep_setAll hb l (o + 1) (kep_set h hb v)
theorem ZC.i {w : World} {b : Nat} {vs : List Value} (h : ZC w b vs) {i : Nat} {u : Value} (hu : vs[i]? = some u) : w.cell? ⟨b, i, none⟩ = some u := h.at_ i u hu
theorem zc_new' (w : World) (l : List Value) (t : TypeId) {b : Nat} (h : b = w.heap.size) : ZC (w.alloc (.cells ⟨l⟩ t)) b l := by subst h; exact zc_new w l t
theorem ZC.far {w : World} {b c : Nat} {vs : List Value} (h : ZC w c vs) (hc : c ≠ b) (l : List Value) : ZC (setAll w b 0 l) c vs :=
  ⟨fun i u hu => setAll_far b l 0 w hc (h.at_ i u hu), fun i => by rw [setAll_froz]; exact h.frz i, by rw [setAll_size]; exact h.lt⟩
end Go.Proofs.Ytlabeelbbkbkaaa
end

section
/-
  What a call keeps that writes into one block, or into two; one cell of a block written (no program).
-/
namespace Go.Proofs.Ytlabeelbbkbkaaa
open Go.RowKit Go.Lib

/-- Every block that was there, but a and b, is as it was. -/
structure FrO (a b : Nat) (w w' : World) : Prop where
  os : w'.os = w.os
  output : w'.output = w.output
  size : w.heap.size ≤ w'.heap.size
  block : ∀ k, k < w.heap.size → k ≠ a → k ≠ b → w'.heap[k]? = w.heap[k]?
theorem FrO.refl (a b : Nat) (w : World) : FrO a b w w := ⟨rfl, rfl, Nat.le_refl _, fun _ _ _ _ => rfl⟩
theorem FrO.trans {a b : Nat} {w w' w'' : World} (h : FrO a b w w') (k : FrO a b w' w'') : FrO a b w w'' :=
  ⟨k.os.trans h.os, k.output.trans h.output, Nat.le_trans h.size k.size, fun i hi n m => (k.block i (Nat.lt_of_lt_of_le hi h.size) n m).trans (h.block i hi n m)⟩
theorem FrO.of_kep {a b : Nat} {w w' : World} (g : Kep w.heap.size w w') : FrO a b w w' := ⟨g.os, g.output, g.size, fun k hk _ _ => g.block k hk⟩
theorem FrO.kep {a b : Nat} {w w' w'' : World} (h : FrO a b w w') (g : Kep w'.heap.size w' w'') : FrO a b w w'' := h.trans (.of_kep g)
theorem FrO.set1 {a b o : Nat} {w w' : World} (h : FrO a b w w') (u : Value) : FrO a b w (w'.setCell ⟨a, o, none⟩ u) :=
  ⟨h.os, h.output, by rw [World.size_setCell]; exact h.size, fun i hi n m => by rw [Below.heap_setCell _ _ _ i (fun e => n e)]; exact h.block i hi n m⟩
theorem FrO.set2 {a b o : Nat} {w w' : World} (h : FrO a b w w') (u : Value) : FrO a b w (w'.setCell ⟨b, o, none⟩ u) :=
  ⟨h.os, h.output, by rw [World.size_setCell]; exact h.size, fun i hi n m => by rw [Below.heap_setCell _ _ _ i (fun e => m e)]; exact h.block i hi n m⟩
theorem FrO.cell {a b : Nat} {w w' : World} (h : FrO a b w w') {c o : Nat} {v : Value} (h1 : c ≠ a) (h2 : c ≠ b) (hc : w.cell? ⟨c, o, none⟩ = some v) : w'.cell? ⟨c, o, none⟩ = some v :=
  (World.cell?_of_block (w := w) (h.block c (World.block_lt_of_cell? _ _ hc) h1 h2)).trans hc
theorem FrO.zc {a b c : Nat} {w w' : World} {vs : List Value} (h : FrO a b w w') (h1 : c ≠ a) (h2 : c ≠ b) (z : ZC w c vs) : ZC w' c vs :=
  ⟨fun i u hu => (World.cell?_of_block (w := w) (h.block c z.lt h1 h2)).trans (z.at_ i u hu), fun i => (World.frozen?_of_block (w := w) (h.block c z.lt h1 h2)).trans (z.frz i), Nat.lt_of_lt_of_le z.lt h.size⟩
theorem FrO.down {a b B : Nat} {w w' : World} (h : FrO a b w w') (h1 : B ≤ a) (h2 : B ≤ b) (h3 : B ≤ w.heap.size) : Kep B w w' := ⟨h.os, h.output, h.size, fun k hk => h.block k (by omega) (by omega) (by omega)⟩
/-- One cell of a block written. -/
theorem ZC.put {w : World} {b : Nat} {vs : List Value} (h : ZC w b vs) {i : Nat} (u : Value) (hi : i < vs.length) : ZC (w.setCell ⟨b, i, none⟩ u) b (vs.set i u) := by
  refine ⟨fun j v hj => ?_, fun j => by rw [World.frozen?_setCell]; exact h.frz j, by rw [World.size_setCell]; exact h.lt⟩
  by_cases c : j = i
  · subst c
    rw [List.getElem?_set_self hi] at hj
    injection hj with hj
    subst hj
    exact World.cell?_setCell_same' _ _ _ (by rw [h.at_ j _ (List.getElem?_eq_getElem hi)]; rfl)
  · rw [List.getElem?_set_ne (fun e => c e.symm)] at hj
    rw [World.cell?_setCell_other (h := by intro e; injection e with _ e2; omega)]
    exact h.at_ j v hj
/-- A cell of another block written. -/
theorem ZC.far1 {w : World} {b c i : Nat} {vs : List Value} (h : ZC w c vs) (hc : c ≠ b) (u : Value) : ZC (w.setCell ⟨b, i, none⟩ u) c vs :=
  ⟨fun j v hj => sset_far (h.at_ j v hj) (fun e => hc e.symm), fun j => by rw [World.frozen?_setCell]; exact h.frz j, by rw [World.size_setCell]; exact h.lt⟩
/-- A row of numbers. -/
def ivs (xs : List Int) : List Value := xs.map fun n => .int .i64 n
theorem ivs_len (xs : List Int) : (ivs xs).length = xs.length := List.length_map ..
theorem ivs_at {xs : List Int} {i : Nat} {a : Int} (h : xs[i]? = some a) : (ivs xs)[i]? = some (.int .i64 a) := by
  unfold ivs
  rw [List.getElem?_map, h]
  rfl
theorem ivs_set (xs : List Int) (i : Nat) (a : Int) : ivs (xs.set i a) = (ivs xs).set i (.int .i64 a) := by
  unfold ivs
  rw [List.map_set]
end Go.Proofs.Ytlabeelbbkbkaaa
end

section
/-
  Package impulse: its slow reference.
-/
namespace Go.Proofs.Ytlabeelbbkbkaaa
open Go.RowKit Go.Lib

abbrev JFl (a b t : Int) : Prop := ∀ w, Calls Try.prog 30 #[.int .i64 a, .int .i64 b] w fun e w' => e = .returned (.int .i64 t) ∧ w = w'
def okI (x : Bd) : Prop := chk x.r x.ax x.ay x.m x.o x.px x.py x.vx x.vy = 0
instance (x : Bd) : Decidable (okI x) := by unfold okI; infer_instance
def imB (nx ny : Int) (x y : Bd) : Bool := decide (okI x) && (decide (okI y) && (decide (Nr nx) && decide (Nr ny)))
theorem imB_iff {nx ny : Int} {x y : Bd} : imB nx ny x y = true ↔ okI x ∧ okI y ∧ Nr nx ∧ Nr ny := by
  unfold imB
  rw [Bool.and_eq_true, Bool.and_eq_true, Bool.and_eq_true, decide_eq_true_iff, decide_eq_true_iff, decide_eq_true_iff, decide_eq_true_iff]
end Go.Proofs.Ytlabeelbbkbkaaa
end
