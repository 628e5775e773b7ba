/-
  Package grid: what the laws ask of the program.
-/
import Derived.Test.YtnmnbogjnjbopaaDoorGridRef6
import Derived.Test.YtnmnbogjnjbopaaDoorGridRef3
import Derived.Test.YtnmnbogjnjbopaaDoorViewKeys
import Derived.Test.YtnmnbogjnjbopaaDoorFac
namespace Go.Proofs.YtnmnbogjnjbopaaDoor
open Go.RowKit Go.Lib

/-- Blocks that are not in S are as they were. -/
structure Oth (S : Nat → Prop) (w w' : World) : Prop where
  os : w'.os = w.os
  output : w'.output = w.output
  size : w.heap.size ≤ w'.heap.size
  block : ∀ k, k < w.heap.size → ¬ S k → w'.heap[k]? = w.heap[k]?
theorem Oth.of_kep {S : Nat → Prop} {w w' : World} (h : Kep w.heap.size w w') : Oth S w w' := ⟨h.os, h.output, h.size, fun k hk _ => h.block k hk⟩
theorem Oth.kep {S : Nat → Prop} {B : Nat} {w w' : World} (h : Oth S w w') (hB : B ≤ w.heap.size) (hS : ∀ k, S k → B ≤ k) : Kep B w w' := ⟨h.os, h.output, h.size, fun k hk => h.block k (by omega) (fun s => by have := hS k s; omega)⟩
/-- More: S' has blocks of S and new ones. -/
def More (w : World) (S S' : Nat → Prop) : Prop := ∀ k, S' k → S k ∨ w.heap.size ≤ k
theorem More.refl (w : World) (S : Nat → Prop) : More w S S := fun _ h => .inl h
theorem More.trans {w w' : World} {S S' S'' : Nat → Prop} (h : More w S S') (hs : w.heap.size ≤ w'.heap.size) (k : More w' S' S'') : More w S S'' := fun j q => by
  rcases k j q with q | q
  · exact h j q
  · exact .inr (Nat.le_trans hs q)
theorem Oth.trans {S S' : Nat → Prop} {a b c : World} (h : Oth S a b) (m : More a S S') (k : Oth S' b c) : Oth S a c :=
  ⟨k.os.trans h.os, k.output.trans h.output, Nat.le_trans h.size k.size, fun i hi hn => (k.block i (Nat.lt_of_lt_of_le hi h.size) (fun q => by rcases m i q with q | q; exact hn q; omega)).trans (h.block i hi hn)⟩
theorem Oth.cell {S : Nat → Prop} {w w' : World} (h : Oth S w w') {b o : Nat} {v : Value} (hb : ¬ S b) (hv : w.cell? ⟨b, o, none⟩ = some v) : w'.cell? ⟨b, o, none⟩ = some v :=
  (World.cell?_of_block (w := w) (h.block b (World.block_lt_of_cell? _ _ hv) hb)).trans hv
/-- A list whose block is not in S. -/
def Off (S : Nat → Prop) (v : Value) : Prop := ∀ g, v.ownBlock = some g → ¬ S g
theorem Sq.oth {α : Type} {f : α → List Value} {n : Nat} {w w' : World} {v : Value} {L : List α} {S : Nat → Prop} (h : Sq f n w v L) (ha : L ≠ [] → Off S v) (k : Oth S w w') : Sq f n w' v L := by
  obtain ⟨base, cap, rfl, hc⟩ := h
  refine ⟨base, cap, rfl, fun j x hx => ?_⟩
  obtain ⟨g, off, rfl, hi⟩ := hc j x hx
  exact ⟨g, off, rfl, fun i u hu => k.cell (ha (fun e => by rw [e] at hx; simp at hx) g rfl) (hi i u hu)⟩
/-- A list that was there lies apart from blocks that were not. -/
theorem off_ge {α : Type} {f : α → List Value} {n : Nat} (hf : ∀ x, (f x).length = n) (hn : 0 < n) {w : World} {v : Value} {L : List α} {S : Nat → Prop} (h : Sq f n w v L) (hS : ∀ k, S k → w.heap.size ≤ k) : L ≠ [] → Off S v := fun hl g e s => by
  obtain ⟨base, cap, rfl, hc⟩ := h
  cases L with
  | nil => exact hl rfl
  | cons x L =>
    obtain ⟨g', off, rfl, hi⟩ := hc 0 x rfl
    have hx : 0 < (f x).length := by rw [hf]; exact hn
    have := World.block_lt_of_cell? _ _ (hi 0 _ (List.getElem?_eq_getElem hx))
    simp [Value.ownBlock] at e
    subst e
    have h2 := hS _ s
    dsimp only at this
    omega
/-- A slice in a block that was not there in w. -/
def Fresh (w : World) (v : Value) : Prop := ∀ g, v.ownBlock = some g → w.heap.size ≤ g
theorem fresh_own {w w' : World} {B : Nat} {t : TypeId} {size n : Nat} {v : Value} {xs : List Value} (h : w'.ownsRow B t size v n xs) (hB : w.heap.size ≤ B) : Fresh w v := fun g e => Nat.le_trans hB (h.lt g e).1
/-- What an entry is to be. -/
def EntOk (e : Ent) : Prop := (Lit.int .u32 e.k).wf = true ∧ FitE e ∧ (cellsB e.a e.b e.c e.d).length ≤ 50
def keyS (w : World) (v : Value) (K : List Int) : Prop := Sq kv 1 w v K
theorem keyS.klst {w : World} {v : Value} {K : List Int} (h : Sq kv 1 w v K) : KLst w v K := by
  obtain ⟨base, cap, rfl, hc⟩ := h
  cases K with
  | nil => exact .inl ⟨rfl, base, cap, rfl⟩
  | cons x K =>
    obtain ⟨g, off, rfl, _⟩ := hc 0 x rfl
    refine .inr ⟨g, off, cap, rfl, fun k y hy => ?_⟩
    obtain ⟨g', off', e, hi⟩ := hc k y hy
    injection e with e
    injection e with e1 e2
    subst e1 e2
    have := hi 0 _ rfl
    rw [Nat.mul_one] at this
    exact this
/-- What the laws ask of the program: GI w g S L: the grid in block g holds the entries L, all its blocks are in S. -/
structure GOps (GI : World → Nat → (Nat → Prop) → List Ent → Prop) : Prop where
  new : ∀ w : World, Fac w → GI (w.alloc (.cells Tryd.zeroCells30 30)) w.heap.size (fun k => k = w.heap.size) []
  kept : ∀ {w w' : World} {g : Nat} {S : Nat → Prop} {L : List Ent}, GI w g S L → (∀ k, S k → w'.heap[k]? = w.heap[k]?) → Fac w' → GI w' g S L
  fac : ∀ {w : World} {g : Nat} {S : Nat → Prop} {L : List Ent}, GI w g S L → Fac w
  lt : ∀ {w : World} {g : Nat} {S : Nat → Prop} {L : List Ent}, GI w g S L → ∀ k, S k → k < w.heap.size
  insert : ∀ (g : Nat) (S : Nat → Prop) (L : List Ent) (e : Ent) (w : World), GI w g S L → EntOk e → L.length ≤ 100 → Calls Tryd.prog 37 #[.pointer (some ⟨g, 0, none⟩), .int .u32 e.k, .agg #[.int .i32 e.a, .int .i32 e.b, .int .i32 e.c, .int .i32 e.d]] w
    fun en w' => (∃ v, en = .returned v) ∧ ∃ S', GI w' g S' (L ++ [e]) ∧ More w S S' ∧ Oth S w w'
  cand : ∀ (g : Nat) (S : Nat → Prop) (L : List Ent) (w : World), GI w g S L → (∀ x ∈ L, EntOk x) → L.length ≤ 100 → Calls Tryd.prog 18 #[.pointer (some ⟨g, 0, none⟩)] w
    fun en w' => ∃ v, en = .returned v ∧ (Sq pv 2 w' v (candL L) ∧ Fresh w v) ∧ Kep w.heap.size w w'
  at_ : ∀ (g : Nat) (S : Nat → Prop) (L : List Ent) (x y : Int) (w : World), GI w g S L → (∀ x ∈ L, EntOk x) → L.length ≤ 100 → In3 x → In3 y → Calls Tryd.prog 21 #[.pointer (some ⟨g, 0, none⟩), .agg #[.int .i32 x, .int .i32 y]] w
    fun en w' => ∃ v, en = .returned v ∧ (Sq kv 1 w' v (atL L (bktN (colN x) (colN y))) ∧ Fresh w v) ∧ Kep w.heap.size w w'
  len : ∀ (g : Nat) (S : Nat → Prop) (L : List Ent) (w : World), GI w g S L → L.length ≤ 100 → Calls Tryd.prog 16 #[.pointer (some ⟨g, 0, none⟩)] w fun en w' => en = .returned (.int .i64 L.length) ∧ Kep w.heap.size w w'
  candNil : ∀ w, Calls Tryd.prog 18 #[.pointer none] w fun en w' => ∃ v, en = .returned v ∧ (Sq pv 2 w' v ([] : List (Int × Int)) ∧ Fresh w v) ∧ Kep w.heap.size w w'
  lenNil : ∀ w, Calls Tryd.prog 16 #[.pointer none] w fun en w' => en = .returned (.int .i64 0) ∧ Kep w.heap.size w w'
theorem GOps.kep {GI : World → Nat → (Nat → Prop) → List Ent → Prop} (O : GOps GI) {w w' : World} {g : Nat} {S : Nat → Prop} {L : List Ent} (h : GI w g S L) (k : Kep w.heap.size w w') : GI w' g S L := O.kept h (fun j hj => k.block j (O.lt h j hj)) ((O.fac h).kep k)
theorem candL_len {L : List Ent} (h : L.length ≤ 40) : (candL L).length ≤ 1600 := by
  rw [← accO_all (Nat.le_refl _)]
  have h1 := accO_len L L.length (Nat.le_refl _)
  have h2 := Nat.mul_le_mul h h
  omega
theorem atL_len {L : List Ent} {n : Int} (h : L.length ≤ 40) : (atL L n).length ≤ 40 := by
  rw [← accA_all (Nat.le_refl _)]
  have h1 := accA_len L n L.length (Nat.le_refl _)
  omega
theorem few_ok {L : List Ent} (h : fewB L = true) : L.length ≤ 40 ∧ ∀ x ∈ L, (cellsB x.a x.b x.c x.d).length ≤ 50 := by
  unfold fewB at h
  rw [Bool.and_eq_true, List.all_eq_true] at h
  exact ⟨of_decide_eq_true h.1, fun x hx => of_decide_eq_true (h.2 x hx)⟩
abbrev GAwake : Prop := ∀ w, Fac w → Calls Tryd.prog 13 #[] w fun e w' => e = .returned (.bool true) ∧ Kep w.heap.size w w'
end Go.Proofs.YtnmnbogjnjbopaaDoor
