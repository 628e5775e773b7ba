/-
  Entries as arguments: a slice of them opened as a list (with its length at most its capacity); one entry opened into its five numbers, and shut again.
-/
import Derived.Test.YtnmnbogjnjbopaaDoorRows
import Derived.Test.YtnmnbogjnjbopaaDoorGridCon
import Derived.WalkKit
import Derived.ProofKit
import Derived.OpenShut
import Derived.ChangeSame
import Derived.Lib.SmallJoins
import Derived.Deep.Slices
namespace Go.Proofs.YtnmnbogjnjbopaaDoor
open Go.ChangeShapes Go.WideShapes Go.ChangeAt Go.RowKit Go.Joins Go.Deep

theorem cellsE_u32 : Tryd.prog.cellsOf 42 = 1 := by kernel_rfl
theorem cellsE_i32 : Tryd.prog.cellsOf 21 = 1 := by kernel_rfl
theorem cells_box : Tryd.prog.cellsOf 47 = 4 := by kernel_rfl
theorem cells_ent : Tryd.prog.cellsOf 49 = 5 := by kernel_rfl
/-- An entry's numbers fit their types. -/
def FitsE (e : Ent) : Prop := (Lit.int .u32 e.k).wf = true ∧ (Lit.int .i32 e.a).wf = true ∧ (Lit.int .i32 e.b).wf = true ∧ (Lit.int .i32 e.c).wf = true ∧ (Lit.int .i32 e.d).wf = true
theorem list_ofE {P : Nat → Ent → Prop} : ∀ (n : Nat), (∀ i, i < n → ∃ b, P i b) → ∃ L : List Ent, L.length = n ∧ ∀ (k : Nat) (b : Ent), L[k]? = some b → P k b
  | 0, _ => ⟨[], rfl, fun _ _ h => by simp at h⟩
  | n + 1, h => by
    obtain ⟨L, hl, hL⟩ := list_ofE n (fun i hi => h i (by omega))
    obtain ⟨b, hb⟩ := h n (by omega)
    refine ⟨L ++ [b], by simp [hl], fun k x hx => ?_⟩
    by_cases c : k < n
    · rw [List.getElem?_append_left (by omega)] at hx; exact hL k x hx
    · rw [List.getElem?_append_right (by omega)] at hx
      have e : k = n := by
        have := (List.getElem?_eq_some_iff.1 hx).1
        simp at this; omega
      subst e
      simp [hl] at hx
      subst hx; exact hb

section
variable {H : Type} {enc : TypeId × Value → H} {W : World} {base : Nat} {spare : Nat → Bool} {held : Bool}
set_option maxRecDepth 100000 in
theorem open_box4 {n : Nat} {c0 c1 c2 c3 : Value} {y : DataW H × List MemPlace} (h : DataW.trod enc Tryd.prog W base spare held n 47 [c0, c1, c2, c3] = some y) :
    ∃ a b c d : Int, c0 = .int .i32 a ∧ c1 = .int .i32 b ∧ c2 = .int .i32 c ∧ c3 = .int .i32 d ∧ y = (.agg [.lit (.int .i32 a), .lit (.int .i32 b), .lit (.int .i32 c), .lit (.int .i32 d)], []) ∧ (Lit.int .i32 a).wf = true ∧ (Lit.int .i32 b).wf = true ∧ (Lit.int .i32 c).wf = true ∧ (Lit.int .i32 d).wf = true := by
  obtain ⟨xs, m, _, hx, _, hlen, hg⟩ := DataW.trod_struct Tryd.underlying47 h
  match xs, hlen with
  | [y0, y1, y2, y3], _ =>
    have g0 : DataW.trod enc Tryd.prog W base spare held m 21 [c0] = some y0 := by simpa [cellsE_i32] using hg 0 _ rfl
    have g1 : DataW.trod enc Tryd.prog W base spare held m 21 [c1] = some y1 := by simpa [cellsE_i32] using hg 1 _ rfl
    have g2 : DataW.trod enc Tryd.prog W base spare held m 21 [c2] = some y2 := by simpa [cellsE_i32] using hg 2 _ rfl
    have g3 : DataW.trod enc Tryd.prog W base spare held m 21 [c3] = some y3 := by simpa [cellsE_i32] using hg 3 _ rfl
    clear hg h
    obtain ⟨a, e0, rfl, w0⟩ := DataW.trod_int Tryd.underlying21 g0
    obtain ⟨b, e1, rfl, w1⟩ := DataW.trod_int Tryd.underlying21 g1
    obtain ⟨c, e2, rfl, w2⟩ := DataW.trod_int Tryd.underlying21 g2
    obtain ⟨d, e3, rfl, w3⟩ := DataW.trod_int Tryd.underlying21 g3
    simp at e0 e1 e2 e3
    subst e0 e1 e2 e3
    exact ⟨a, b, c, d, rfl, rfl, rfl, rfl, by simpa using hx, w0, w1, w2, w3⟩
set_option maxRecDepth 100000 in
theorem open_ent5 {n : Nat} {cs : List Value} {y : DataW H × List MemPlace} (h : DataW.trod enc Tryd.prog W base spare held n 49 cs = some y) :
    ∃ e : Ent, cs = ev e ∧ FitsE e ∧ y = (.agg [.lit (.int .u32 e.k), .agg [.lit (.int .i32 e.a), .lit (.int .i32 e.b), .lit (.int .i32 e.c), .lit (.int .i32 e.d)]], []) := by
  obtain ⟨xs, n, _, hx, hsz, hlen, hg⟩ := DataW.trod_struct Tryd.underlying49 h
  rw [cells_ent] at hsz
  match cs, hsz with
  | [c0, c1, c2, c3, c4], _ =>
    match xs, hlen with
    | [y0, y1], _ =>
      have g0 : DataW.trod enc Tryd.prog W base spare held n 42 [c0] = some y0 := by simpa [cellsE_u32] using hg 0 _ rfl
      have g1 : DataW.trod enc Tryd.prog W base spare held n 47 [c1, c2, c3, c4] = some y1 := by simpa [cells_box] using hg 1 _ rfl
      clear hg h
      obtain ⟨a0, e0, rfl, w0⟩ := DataW.trod_int Tryd.underlying42 g0
      obtain ⟨a1, a2, a3, a4, rfl, rfl, rfl, rfl, rfl, w1, w2, w3, w4⟩ := open_box4 g1
      simp at e0
      subst e0
      exact ⟨⟨a0, a1, a2, a3, a4⟩, rfl, ⟨w0, w1, w2, w3, w4⟩, by simpa using hx⟩
set_option maxRecDepth 100000 in
theorem open_entry {r : Reach} {b0 : Nat} {v : Value} {d : DataW H} {p : List MemPlace} (hv : Value.okWide Tryd.prog W r b0 49 v) (h : DataW.Trod enc Tryd.prog W base spare held 49 v d p) :
    ∃ a0 a1 a2 a3 a4 : Int, v = .agg #[.int .u32 a0, .int .i32 a1, .int .i32 a2, .int .i32 a3, .int .i32 a4] ∧ d = .agg [.lit (.int .u32 a0), .agg [.lit (.int .i32 a1), .lit (.int .i32 a2), .lit (.int .i32 a3), .lit (.int .i32 a4)]] ∧ p = [] ∧ FitsE ⟨a0, a1, a2, a3, a4⟩ := by
  obtain ⟨cs, rfl, hsz⟩ := okWide_struct Tryd.underlying49 hv
  obtain ⟨l⟩ := cs
  obtain ⟨fuel, hf⟩ := h
  obtain ⟨e, hc, hw, hy⟩ := open_ent5 hf
  simp [Value.cells] at hc
  subst hc
  simp only [Prod.mk.injEq] at hy
  exact ⟨_, _, _, _, _, rfl, hy.1, hy.2, hw⟩
set_option maxRecDepth 100000 in
theorem shut_box4 (m : Nat) {a b c d : Int} (w0 : (Lit.int .i32 a).wf = true) (w1 : (Lit.int .i32 b).wf = true) (w2 : (Lit.int .i32 c).wf = true) (w3 : (Lit.int .i32 d).wf = true) :
    DataW.trod enc Tryd.prog W base spare held (m + 2) 47 [.int .i32 a, .int .i32 b, .int .i32 c, .int .i32 d] = some (.agg [.lit (.int .i32 a), .lit (.int .i32 b), .lit (.int .i32 c), .lit (.int .i32 d)], []) := by
  have := trod_struct_mk (enc := enc) (w := W) (base := base) (spare := spare) (held := held) (n := m + 1) (cs := [.int .i32 a, .int .i32 b, .int .i32 c, .int .i32 d]) (xs := [(.lit (.int .i32 a), []), (.lit (.int .i32 b), []), (.lit (.int .i32 c), []), (.lit (.int .i32 d), [])]) Tryd.underlying47 (by simp [cells_box])
    (by simp [cellsE_i32, trod_int_mk m Tryd.underlying21 w0, trod_int_mk m Tryd.underlying21 w1, trod_int_mk m Tryd.underlying21 w2, trod_int_mk m Tryd.underlying21 w3])
  simpa using this
set_option maxRecDepth 100000 in
theorem shut_entry {a0 a1 a2 a3 a4 : Int} (h : FitsE ⟨a0, a1, a2, a3, a4⟩) : DataW.Trod enc Tryd.prog W base spare held 49 (.agg #[.int .u32 a0, .int .i32 a1, .int .i32 a2, .int .i32 a3, .int .i32 a4]) (.agg [.lit (.int .u32 a0), .agg [.lit (.int .i32 a1), .lit (.int .i32 a2), .lit (.int .i32 a3), .lit (.int .i32 a4)]]) [] := by
  obtain ⟨w0, w1, w2, w3, w4⟩ := h
  have := trod_struct_mk (enc := enc) (w := W) (base := base) (spare := spare) (held := held) (n := 2) (cs := [.int .u32 a0, .int .i32 a1, .int .i32 a2, .int .i32 a3, .int .i32 a4]) (xs := [(.lit (.int .u32 a0), []), (.agg [.lit (.int .i32 a1), .lit (.int .i32 a2), .lit (.int .i32 a3), .lit (.int .i32 a4)], [])]) Tryd.underlying49 (by simp [cells_ent])
    (by simp [cellsE_u32, cells_box, trod_int_mk 1 Tryd.underlying42 w0, shut_box4 0 w1 w2 w3 w4])
  exact ⟨3, by simpa [Value.cells] using this⟩

set_option maxRecDepth 100000 in
theorem open_entries {r : Reach} {b0 : Nat} {v : Value} {d : DataW H} {p : List MemPlace} (hv : Value.okWide Tryd.prog W r b0 22 v) (h : DataW.Trod enc Tryd.prog W base spare held 22 v d p) :
    ∃ L : List Ent, Sq ev 5 W v L ∧ (∀ b ∈ L, FitsE b) ∧ L.length ≤ maxLen ∧ ∀ b m c, v = .slice b m c → m ≤ c := by
  obtain ⟨a0, len0, cap0, rfl⟩ := okWide_slice Tryd.underlying22 hv
  obtain ⟨fuel, hf⟩ := h
  rcases open_slice Tryd.underlying22 hf with ⟨hcs, _⟩ | ⟨a, len, cap, m, n, D, Pl, hcs, _, hl, hm, hmm, _, hi⟩
  · simp [Value.cells] at hcs
    obtain ⟨rfl, rfl, rfl⟩ := hcs
    exact ⟨[], Sq.nil, fun _ h => by simp at h, by simp, fun b m c e => by injection e with _ e1 e2; omega⟩
  · simp [Value.cells] at hcs
    obtain ⟨rfl, rfl, rfl⟩ := hcs
    rw [cells_ent] at hi
    have hle : len0 ≤ m := by rw [hmm]; split <;> omega
    obtain ⟨L, hL, hP⟩ := list_ofE (P := fun i b => (∀ j, j < 5 → W.cell? ((a.add (i * 5)).add j) = (ev b)[j]?) ∧ FitsE b) len0 (fun i h => by
      obtain ⟨cs', hc, ht⟩ := hi i (by omega)
      obtain ⟨_, _, hat⟩ := World.cells?_some hc
      obtain ⟨b, rfl, hb, _⟩ := open_ent5 ht
      exact ⟨b, hat, hb⟩)
    subst hL
    refine ⟨L, ⟨_, _, rfl, fun k b hb => ?_⟩, fun b hb => ?_, by omega, fun b m c e => by injection e with _ e1 e2; omega⟩
    · obtain ⟨g, off, spot⟩ := a
      have hL0 : 0 < L.length := by have := (List.getElem?_eq_some_iff.1 hb).1; omega
      have h0 := (hP 0 _ (List.getElem?_eq_getElem hL0)).1 0 (by decide)
      have hspot : spot = none := by
        have q := World.cell?_spot (h0.trans (show (ev (L[0]'hL0))[0]? = some (.int .u32 (L[0]'hL0).k) from rfl))
        simp only [Nat.zero_mul] at q
        exact q
      subst hspot
      refine ⟨g, off, rfl, fun i u hu => ?_⟩
      have hi5 : i < 5 := by have := (List.getElem?_eq_some_iff.1 hu).1; simpa [ev] using this
      rw [← hu, ← (hP k b hb).1 i hi5]
      rw [Go.WideShapes.add_plain, Go.WideShapes.add_plain]
    · obtain ⟨k, hk⟩ := List.getElem?_of_mem hb
      exact (hP k b hk).2
end
theorem KepE.same {W W' : World} (h : Kep W.heap.size W W') {p : MemPlace} (hp : p.block < W.heap.size) : W.sameAt W' p := by
  cases p with
  | cell b o => exact World.cell?_of_block (w := W) (h.block b hp)
  | map b => exact h.block b hp
theorem KepE.trod {H : Type} {enc : TypeId × Value → H} {P : Program} {t : TypeId} (hl : laidOutB P = true) (hr : P.readableRec t = true) (hrow : t < P.types.size) {W W' : World} {v : Value} {d : DataW H} {ps : List MemPlace}
    (h : DataW.Trod enc P W 0 (fun _ => true) true t v d ps) (hb : Kep W.heap.size W W') (hlt : ∀ x ∈ ps, x.block < W.heap.size) :
    DataW.Trod enc P W' 0 (fun b => decide (b < W.heap.size)) true t v d ps :=
  WideElems.Trod_stays hl hr hrow h (fun x hx => KepE.same hb (hlt x hx)) (fun x hx => by simpa using hlt x hx)
end Go.Proofs.YtnmnbogjnjbopaaDoor
