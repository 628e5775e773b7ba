/-
  A block of the call's own that holds a struct: its cells at once, and a struct stored into it (no program).
-/
import Derived.Test.YtllkokfaodpfiaaSeq
namespace Go.Proofs.Ytllkokfaodpfiaa
open Go.RowKit Go.Lib

/-- The cells of block b from 0 on are vs, and none of the block's cells is frozen. -/
structure ZC (w : World) (b : Nat) (vs : List Value) : Prop where
  at_ : ∀ (i : Nat) (u : Value), vs[i]? = some u → w.cell? ⟨b, i, none⟩ = some u
  frz : ∀ i, w.frozen? ⟨b, i, none⟩ = false
  lt : b < w.heap.size
theorem ZC.kep {w w' : World} {b : Nat} {vs : List Value} (h : ZC w b vs) (g : Kep w.heap.size w w') : ZC w' b vs :=
  ⟨fun i u hu => g.all (h.at_ i u hu), fun i => (g.frozen (p := ⟨b, i, none⟩) h.lt).trans (h.frz i), Nat.lt_of_lt_of_le h.lt g.size⟩
theorem ZC.drew {w : World} {b : Nat} {vs : List Value} (h : ZC w b vs) : ZC w.drew b vs := h.kep (kep_drew (Kep.refl _ _))
theorem ZC.more {w : World} {b : Nat} {vs : List Value} (h : ZC w b vs) (o : Obj) : ZC (w.alloc o) b vs := h.kep (kep_more (Kep.refl _ _) o)
theorem zc_new (w : World) (l : List Value) (t : TypeId) : ZC (w.alloc (.cells ⟨l⟩ t)) w.heap.size l := by
  refine ⟨fun i u hu => ?_, fun i => ?_, by simp⟩
  · rw [World.cell?_alloc_at _ _ _ _ rfl]
    simpa using hu
  · exact World.frozen?_alloc_at _ _ _ _ rfl
/-- A struct stored cell by cell. -/
def setAll (w : World) (b : Nat) : Nat → List Value → World
  | _, [] => w
  | o, v :: l => setAll (w.setCell ⟨b, o, none⟩ v) b (o + 1) l
theorem setAll_size (b : Nat) : ∀ (l : List Value) (o : Nat) (w : World), (setAll w b o l).heap.size = w.heap.size
  | [], _, _ => rfl
  | v :: l, o, w => by
    unfold setAll
    rw [setAll_size b l, World.size_setCell]
theorem setAll_froz (b : Nat) : ∀ (l : List Value) (o : Nat) (w : World) (a : Addr), (setAll w b o l).frozen? a = w.frozen? a
  | [], _, _, _ => rfl
  | v :: l, o, w, a => by
    unfold setAll
    rw [setAll_froz b l, World.frozen?_setCell]
theorem setAll_far (b : Nat) : ∀ (l : List Value) (o : Nat) (w : World) {c i : Nat} {u : Value}, c ≠ b → w.cell? ⟨c, i, none⟩ = some u → (setAll w b o l).cell? ⟨c, i, none⟩ = some u
  | [], _, _, _, _, _, _, h => h
  | v :: l, o, w, c, i, u, hc, h => by
    unfold setAll
    exact setAll_far b l (o + 1) _ hc (sset_far h (fun e => hc e.symm))
theorem setAll_low (b : Nat) : ∀ (l : List Value) (o : Nat) (w : World) {i : Nat} {u : Value}, i < o → w.cell? ⟨b, i, none⟩ = some u → (setAll w b o l).cell? ⟨b, i, none⟩ = some u
  | [], _, _, _, _, _, h => h
  | v :: l, o, w, i, u, hi, h => by
    unfold setAll
    refine setAll_low b l (o + 1) _ (by omega) ?_
    rw [World.cell?_setCell_other (h := by intro e; injection e with _ e2; omega)]
    exact h
theorem setAll_at (b : Nat) : ∀ (l : List Value) (o : Nat) (w : World), (∀ j, j < l.length → (w.cell? ⟨b, o + j, none⟩).isSome = true) → ∀ (i : Nat) (u : Value), l[i]? = some u → (setAll w b o l).cell? ⟨b, o + i, none⟩ = some u
  | [], _, _, _, _, _, h => by simp at h
  | v :: l, o, w, hs, 0, u, h => by
    simp at h
    subst h
    unfold setAll
    refine setAll_low b l (o + 1) _ (by omega) ?_
    exact World.cell?_setCell_same' _ _ _ (hs 0 (by simp))
  | v :: l, o, w, hs, i + 1, u, h => by
    unfold setAll
    have := setAll_at b l (o + 1) (w.setCell ⟨b, o, none⟩ v) (fun j hj => sset_some _ _ _ (by
      have := hs (j + 1) (by simp; omega)
      rw [show o + 1 + j = o + (j + 1) by omega]
      exact this)) i u (by simpa using h)
    rw [show o + (i + 1) = o + 1 + i by omega]
    exact this
theorem ZC.set {w : World} {b : Nat} {vs : List Value} (h : ZC w b vs) (us : List Value) (hl : us.length ≤ vs.length) : ZC (setAll w b 0 us) b us := by
  refine ⟨fun i u hu => ?_, fun i => by rw [setAll_froz]; exact h.frz i, by rw [setAll_size]; exact h.lt⟩
  have := setAll_at b us 0 w (fun j hj => by
    rw [Nat.zero_add]
    have hj2 : j < vs.length := by omega
    rw [h.at_ j _ (List.getElem?_eq_getElem hj2)]
    rfl) i u hu
  rw [Nat.zero_add] at this
  exact this
theorem kep_setAll {a : World} {b : Nat} (hb : a.heap.size ≤ b) : ∀ (l : List Value) (o : Nat) {w : World}, Kep a.heap.size a w → Kep a.heap.size a (setAll w b o l)
  | [], _, _, h => h
  | v :: l, o, w, h => by
    unfold setAll
    exact kep_setAll hb l (o + 1) (kep_set h hb v)
theorem ZC.i {w : World} {b : Nat} {vs : List Value} (h : ZC w b vs) {i : Nat} {u : Value} (hu : vs[i]? = some u) : w.cell? ⟨b, i, none⟩ = some u := h.at_ i u hu
theorem zc_new' (w : World) (l : List Value) (t : TypeId) {b : Nat} (h : b = w.heap.size) : ZC (w.alloc (.cells ⟨l⟩ t)) b l := by subst h; exact zc_new w l t
theorem ZC.far {w : World} {b c : Nat} {vs : List Value} (h : ZC w c vs) (hc : c ≠ b) (l : List Value) : ZC (setAll w b 0 l) c vs :=
  ⟨fun i u hu => setAll_far b l 0 w hc (h.at_ i u hu), fun i => by rw [setAll_froz]; exact h.frz i, by rw [setAll_size]; exact h.lt⟩
end Go.Proofs.Ytllkokfaodpfiaa
