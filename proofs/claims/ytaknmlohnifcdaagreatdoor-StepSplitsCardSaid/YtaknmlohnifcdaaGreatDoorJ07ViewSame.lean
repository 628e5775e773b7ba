import Derived.Test.YtaknmlohnifcdaaGreatDoorJ06StorePut
import Derived.Deep.QuietTactic
import Derived.BigQuiet
import Derived.Deep.AppendLies

/-! J07ViewSame: ViewSame, ViewTri. -/

section
/-
  Package store's reference: Same, of two slices that read as different lists.
-/
namespace Go.Proofs.YtaknmlohnifcdaaGreatDoor
open Go.RowKit Go.Lib

theorem bd_ext {x y : Bd} (h0 : x.k = y.k) (h1 : x.r = y.r) (h2 : x.ax = y.ax) (h3 : x.ay = y.ay) (h4 : x.m = y.m) (h5 : x.o = y.o) (h6 : x.px = y.px) (h7 : x.py = y.py) (h8 : x.vx = y.vx) (h9 : x.vy = y.vy) : x = y := by
  cases x; cases y; simp_all
def eqB (x y : Bd) : Bool := x.k == y.k && (x.r == y.r && (x.ax == y.ax && (x.ay == y.ay && (x.m == y.m && (x.o == y.o && (x.px == y.px && (x.py == y.py && (x.vx == y.vx && x.vy == y.vy))))))))
theorem eqB_iff {x y : Bd} : eqB x y = true ↔ x = y := by
  constructor
  · intro h
    simp only [eqB, Bool.and_eq_true, beq_iff_eq] at h
    obtain ⟨h0, h1, h2, h3, h4, h5, h6, h7, h8, h9⟩ := h
    exact bd_ext h0 h1 h2 h3 h4 h5 h6 h7 h8 h9
  · rintro rfl
    simp [eqB]
theorem eqB_no {x y : Bd} (h : x ≠ y) : eqB x y = false := by
  cases c : eqB x y with
  | false => rfl
  | true => exact absurd (eqB_iff.1 c) h
theorem cmp_ints (x0 x1 x2 x3 x4 x5 x6 x7 x8 x9 y0 y1 y2 y3 y4 y5 y6 y7 y8 y9 : Int) (w : World) : (binOp .neq 40 (.agg #[Value.int .u32 x0, Value.int .i32 x1, Value.int .i32 x2, Value.int .i32 x3, Value.int .i32 x4, Value.int .i32 x5, Value.int .i32 x6, Value.int .i32 x7, Value.int .i32 x8, Value.int .i32 x9]) (.agg #[Value.int .u32 y0, Value.int .i32 y1, Value.int .i32 y2, Value.int .i32 y3, Value.int .i32 y4, Value.int .i32 y5, Value.int .i32 y6, Value.int .i32 y7, Value.int .i32 y8, Value.int .i32 y9])).run Tryz.prog w = .ok (.bool (!(x0 == y0 && (x1 == y1 && (x2 == y2 && (x3 == y3 && (x4 == y4 && (x5 == y5 && (x6 == y6 && (x7 == y7 && (x8 == y8 && (x9 == y9)))))))))))) w := by
  by_cases e0 : x0 = y0
  rotate_left
  · have f : (x0 == y0) = false := beq_eq_false_iff_ne.2 e0
    simp [go_sem, f]
  subst e0
  by_cases e1 : x1 = y1
  rotate_left
  · have f : (x1 == y1) = false := beq_eq_false_iff_ne.2 e1
    simp [go_sem, f]
  subst e1
  by_cases e2 : x2 = y2
  rotate_left
  · have f : (x2 == y2) = false := beq_eq_false_iff_ne.2 e2
    simp [go_sem, f]
  subst e2
  by_cases e3 : x3 = y3
  rotate_left
  · have f : (x3 == y3) = false := beq_eq_false_iff_ne.2 e3
    simp [go_sem, f]
  subst e3
  by_cases e4 : x4 = y4
  rotate_left
  · have f : (x4 == y4) = false := beq_eq_false_iff_ne.2 e4
    simp [go_sem, f]
  subst e4
  by_cases e5 : x5 = y5
  rotate_left
  · have f : (x5 == y5) = false := beq_eq_false_iff_ne.2 e5
    simp [go_sem, f]
  subst e5
  by_cases e6 : x6 = y6
  rotate_left
  · have f : (x6 == y6) = false := beq_eq_false_iff_ne.2 e6
    simp [go_sem, f]
  subst e6
  by_cases e7 : x7 = y7
  rotate_left
  · have f : (x7 == y7) = false := beq_eq_false_iff_ne.2 e7
    simp [go_sem, f]
  subst e7
  by_cases e8 : x8 = y8
  rotate_left
  · have f : (x8 == y8) = false := beq_eq_false_iff_ne.2 e8
    simp [go_sem, f]
  subst e8
  by_cases e9 : x9 = y9
  rotate_left
  · have f : (x9 == y9) = false := beq_eq_false_iff_ne.2 e9
    simp [go_sem, f]
  subst e9
  simp [go_sem]
theorem body_cmp (x y : Bd) (w : World) : (binOp .neq 40 (.agg #[Value.int .u32 x.k, Value.int .i32 x.r, Value.int .i32 x.ax, Value.int .i32 x.ay, Value.int .i32 x.m, Value.int .i32 x.o, Value.int .i32 x.px, Value.int .i32 x.py, Value.int .i32 x.vx, Value.int .i32 x.vy]) (.agg #[Value.int .u32 y.k, Value.int .i32 y.r, Value.int .i32 y.ax, Value.int .i32 y.ay, Value.int .i32 y.m, Value.int .i32 y.o, Value.int .i32 y.px, Value.int .i32 y.py, Value.int .i32 y.vx, Value.int .i32 y.vy])).run Tryz.prog w = .ok (.bool (!eqB x y)) w := cmp_ints _ _ _ _ _ _ _ _ _ _ _ _ _ _ _ _ _ _ _ _ w

set_option maxRecDepth 100000 in
set_option maxHeartbeats 1000000 in
theorem same_len (base1 base2 : Option Addr) (cap1 cap2 n1 n2 : Nat) (w : World) (hn : n1 ≠ n2) : Calls Tryz.prog 12 #[.slice base1 n1 cap1, .slice base2 n2 cap2] w fun e w' => e = .returned (.bool false) ∧ Kep w.heap.size w w' := by
  have e : ((n1 : Int) != (n2 : Int)) = true := bne_iff_ne.2 (by omega)
  go_enter Tryz.func12, Tryz.ntmps12
  go_wp2
  go_ret
  exact ⟨rfl, Kep.refl _ _⟩
set_option maxRecDepth 100000 in
set_option maxHeartbeats 1000000 in
theorem same_ne (v1 v2 : Value) (L M : List Bd) (w : World) (h1 : Lst w v1 L) (h2 : Lst w v2 M) (hm : L.length ≤ 1000000000) (hne : L ≠ M) :
    Calls Tryz.prog 12 #[v1, v2] w fun e w' => e = .returned (.bool false) ∧ Kep w.heap.size w w' := by
  obtain ⟨base1, cap1, rfl⟩ := h1.shape
  obtain ⟨base2, cap2, rfl⟩ := h2.shape
  by_cases hl : L.length = M.length
  · have H1 := Lib.hid h1
    have H2 := Lib.hid h2
    have HE := Lib.hid hne
    clear h1 h2 hne
    obtain ⟨n, hn⟩ : ∃ n, n = L.length := ⟨_, rfl⟩
    rw [← hl] at H2 ⊢
    rw [← hn] at H1 H2 hm ⊢
    have HN := Lib.hid hn.symm
    have HM : Hid (M.length = n) := Lib.hid (by omega)
    clear hl hn
    go_enter Tryz.func12, Tryz.ntmps12
    go_wp2
    go_loopw [5] (fun i wr => ∃ k : Nat, k ≤ n ∧ i = .int .i64 k ∧ Hid ((∀ j, j < k → L[j]? = M[j]?) ∧ Kep w.heap.size w wr)) (fun i _ => n - (RowKit.intOf i).toNat)
    case atStart => exact ⟨0, Nat.zero_le _, rfl, Lib.hid ⟨fun j hj => by omega, Kep.refl _ _⟩⟩
    case round =>
      obtain ⟨k, hk, rfl, HK⟩ := hrel
      by_cases hlt : k < n
      · have hx : L[k]? = some (L[k]'(by rw [HN.out]; exact hlt)) := List.getElem?_eq_getElem _
        generalize L[k]'(by rw [HN.out]; exact hlt) = x at hx
        have hy : M[k]? = some (M[k]'(by rw [HM.out]; exact hlt)) := List.getElem?_eq_getElem _
        generalize M[k]'(by rw [HM.out]; exact hlt) = y at hy
        obtain ⟨g1, off1, hb1, hc1⟩ := Lst.at_ (H1.out.kep HK.out.2) hx
        obtain ⟨g2, off2, hb2, hc2⟩ := Lst.at_ (H2.out.kep HK.out.2) hy
        subst hb1
        subst hb2
        obtain ⟨x0, x1, x2, x3, x4, x5, x6, x7, x8, x9⟩ := old_cells (Kep.refl _ _) hc1
        obtain ⟨y0, y1, y2, y3, y4, y5, y6, y7, y8, y9⟩ := old_cells (Kep.refl _ _) hc2
        have e := body_cmp x y
        have HXY := Lib.hid (And.intro hx hy)
        clear hc1 hc2 hx hy
        by_cases c : x = y
        · have q : eqB x y = true := eqB_iff.2 c
          rw [q] at e
          go_wp2_with fail
          go_quiet (fail)
          go_wp2_with fail
          go_roundw
          case rel => exact ⟨k + 1, by omega, by go_num, Lib.hid ⟨fun j hj => by
              by_cases z : j = k
              · subst z; rw [HXY.out.1, HXY.out.2, c]
              · exact HK.out.1 j (by omega), HK.out.2.drewN _⟩⟩
          case measure => simp [RowKit.intOf]; omega
        · have q : eqB x y = false := eqB_no c
          rw [q] at e
          go_wp2_with fail
          go_quiet (fail)
          go_wp2
          go_ret
          exact ⟨rfl, HK.out.2.drewN _⟩
      · exfalso
        refine HE.out (List.ext_getElem? fun j => ?_)
        by_cases z : j < k
        · exact HK.out.1 j z
        · rw [List.getElem?_eq_none (by rw [HN.out]; omega), List.getElem?_eq_none (by rw [HM.out]; omega)]
  · exact same_len base1 base2 cap1 cap2 _ _ w hl
end Go.Proofs.YtaknmlohnifcdaaGreatDoor
end

section
/-
  Package view's reference: three slices of keys in a struct, one of them appended to; the lists of a difference.
-/
namespace Go.Proofs.YtaknmlohnifcdaaGreatDoor
open Go.RowKit Go.Lib

/-- The keys of L that M has not. -/
def remL (L M : List Bd) : List Int := (L.filter fun x => (look M x.k).isNone).map (·.k)
def chgB (M : List Bd) (x : Bd) : Bool := match look M x.k with
  | none => false
  | some y => !eqB y x
/-- The keys of L that M has with another body. -/
def chgL (L M : List Bd) : List Int := (L.filter (chgB M)).map (·.k)
theorem chg_none {M : List Bd} {x : Bd} (h : look M x.k = none) : chgB M x = false := by simp [chgB, h]
theorem chg_some {M : List Bd} {x y : Bd} (h : look M x.k = some y) : chgB M x = !eqB y x := by simp [chgB, h]
def diffC (L M : List Bd) : Ch := ⟨remL M L, remL L M, chgL L M⟩
theorem remL_take {L M : List Bd} {k : Nat} {x : Bd} (hx : L[k]? = some x) : remL (L.take (k + 1)) M = remL (L.take k) M ++ if (look M x.k).isNone then [x.k] else [] := by
  rw [List.take_add_one, hx]
  unfold remL
  rw [List.filter_append, List.map_append]
  congr 1
  cases c : (look M x.k).isNone <;> simp [c]
theorem chgL_take {L M : List Bd} {k : Nat} {x : Bd} (hx : L[k]? = some x) : chgL (L.take (k + 1)) M = chgL (L.take k) M ++ if chgB M x then [x.k] else [] := by
  rw [List.take_add_one, hx]
  unfold chgL
  rw [List.filter_append, List.map_append]
  congr 1
  cases c : chgB M x <;> simp [c]
theorem remL_len (L M : List Bd) (k : Nat) : (remL (L.take k) M).length ≤ k := by
  unfold remL
  rw [List.length_map]
  exact Nat.le_trans (List.length_filter_le _ _) (List.length_take_le k L)
theorem chgL_len (L M : List Bd) (k : Nat) : (chgL (L.take k) M).length ≤ k := by
  unfold chgL
  rw [List.length_map]
  exact Nat.le_trans (List.length_filter_le _ _) (List.length_take_le k L)

/-- The cells of a list of keys. -/
def kvs (K : List Int) : List Value := K.map (Value.int .u32)
/-- Block b holds three slices of keys that lie in blocks of their own. -/
structure Tri (b : Nat) (w : World) (V : Nat → Value) (K : Nat → List Int) : Prop where
  cell : ∀ i, i < 3 → w.cell? ⟨b, i, none⟩ = some (V i)
  fr : ∀ i, w.frozen? ⟨b, i, none⟩ = false
  own : ∀ i, i < 3 → w.ownsRow (b + 1) 36 1 (V i) (K i).length (kvs (K i))
  apart : ∀ i j g, i < 3 → j < 3 → (V i).ownBlock = some g → (V j).ownBlock = some g → i = j
theorem Tri.lt {b : Nat} {w : World} {V : Nat → Value} {K : Nat → List Int} (h : Tri b w V K) : b < w.heap.size := World.block_lt_of_cell? _ _ (h.cell 0 (by decide))
theorem Tri.drewN {b : Nat} {w : World} {V : Nat → Value} {K : Nat → List Int} (h : Tri b w V K) (n : Nat) : Tri b (w.drewN n) V K := ⟨h.cell, h.fr, h.own, h.apart⟩
theorem Tri.grown {b : Nat} {w w' : World} {V : Nat → Value} {K : Nat → List Int} (h : Tri b w V K) (g : w.grownBy w' none) : Tri b w' V K :=
  ⟨fun i hi => g.cell (h.cell i hi) (by simp), fun i => (World.frozen?_of_block (g.block b h.lt (by simp))).trans (h.fr i), fun i hi => (h.own i hi).kept g (by
    cases e : (V i).ownBlock with
    | none => exact .inl rfl
    | some x => exact .inr (by simp)), h.apart⟩
def upd {α : Type} (f : Nat → α) (j : Nat) (x : α) (i : Nat) : α := if i = j then x else f i
theorem sc_by (w : World) (b o : Nat) (u : Value) : w.grownBy (w.setCell ⟨b, o, none⟩ u) (some b) := ⟨rfl, rfl, rfl, by simp, fun k _ hk => heap_setCell_other w ⟨b, o, none⟩ k u (fun e => hk (by simp [e]))⟩
/-- One of them appended to. -/
theorem Tri.more {b : Nat} {w w4 : World} {V : Nat → Value} {K : Nat → List Int} (h : Tri b w V K) {j : Nat} (hj : j < 3) {x : Int} {g cap : Nat}
    (h4 : w4.ownsRow (b + 1) 36 1 (.slice (some ⟨g, 0, none⟩) ((K j).length + 1) cap) ((K j).length + 1) (kvs (K j) ++ [.int .u32 x])) (g4 : w.grownBy w4 (V j).ownBlock) (hat : (V j).ownBlock = some g ∨ w.heap.size ≤ g) :
    Tri b (w4.setCell ⟨b, j, none⟩ (.slice (some ⟨g, 0, none⟩) ((K j).length + 1) cap)) (upd V j (.slice (some ⟨g, 0, none⟩) ((K j).length + 1) cap)) (upd K j (K j ++ [x])) := by
  have hb : (V j).ownBlock ≠ some b := fun e => by have := ((h.own j hj).lt b e).1; omega
  have hc : ∀ i, i < 3 → w4.cell? ⟨b, i, none⟩ = some (V i) := fun i hi => g4.cell (h.cell i hi) (fun e => hb e.symm)
  have hbb : w4.heap[b]? = w.heap[b]? := g4.block b h.lt (fun e => hb e.symm)
  have gs := sc_by w4 b j (.slice (some ⟨g, 0, none⟩) ((K j).length + 1) cap)
  have hgb : g ≠ b := by
    rcases hat with e | e
    · exact fun q => hb (by rw [e, q])
    · have := h.lt; omega
  have hne : ∀ i, i < 3 → i ≠ j → (V i).ownBlock ≠ some g := fun i hi hij e => by
    rcases hat with q | q
    · exact hij (h.apart i j g hi hj e q)
    · have := ((h.own i hi).lt g e).2; omega
  refine ⟨fun i hi => ?_, fun i => ?_, fun i hi => ?_, fun i k x hi hk e1 e2 => ?_⟩
  · unfold upd
    by_cases e : i = j
    · subst e; rw [if_pos rfl]; exact World.cell?_setCell_same' _ _ _ (by rw [hc i hi]; rfl)
    · rw [if_neg e, World.cell?_setCell_other (h := by simp)]; exact hc i hi
  · exact (World.frozen?_setCell _ _ _ _).trans ((World.frozen?_of_block hbb).trans (h.fr i))
  · unfold upd
    by_cases e : i = j
    · subst e
      rw [if_pos rfl, if_pos rfl]
      have := h4.kept gs (.inr (by simpa [Value.ownBlock] using hgb))
      simpa [kvs] using this
    · rw [if_neg e, if_neg e]
      refine ((h.own i hi).kept g4 ?_).kept gs ?_
      · cases q : (V i).ownBlock with
        | none => exact .inl rfl
        | some y => exact .inr (fun r => e (h.apart i j y hi hj q r.symm))
      · exact .inr (fun r => by have := ((h.own i hi).lt b r).1; omega)
  · unfold upd at e1 e2
    by_cases c1 : i = j <;> by_cases c2 : k = j
    · omega
    · rw [if_pos c1] at e1
      rw [if_neg c2] at e2
      injection e1 with e1
      subst e1
      exact absurd e2 (hne k hk c2)
    · rw [if_neg c1] at e1
      rw [if_pos c2] at e2
      injection e2 with e2
      subst e2
      exact absurd e1 (hne i hi c1)
    · rw [if_neg c1] at e1
      rw [if_neg c2] at e2
      exact h.apart i k x hi hk e1 e2
theorem Tri.far {b c : Nat} {w w' : World} {V : Nat → Value} {K : Nat → List Int} (h : Tri b w V K) (g : w.grownBy w' (some c)) (hc : c < b) : Tri b w' V K :=
  ⟨fun i hi => g.cell (h.cell i hi) (by simp; omega), fun i => (World.frozen?_of_block (g.block b h.lt (by simp; omega))).trans (h.fr i), fun i hi => (h.own i hi).kept g (.inr (fun e => by have := ((h.own i hi).lt c e).1; omega)), h.apart⟩
theorem Tri.shape {b : Nat} {w : World} {V : Nat → Value} {K : Nat → List Int} (h : Tri b w V K) {i : Nat} (hi : i < 3) : ∃ base cap, V i = .slice base (K i).length cap := by
  rcases (h.own i hi).2 with ⟨e, h0⟩ | ⟨g, cap, _, e, _⟩
  · exact ⟨none, 0, by rw [e, h0]⟩
  · exact ⟨_, cap, e⟩
theorem own_klst {w : World} {B : Nat} {v : Value} {K : List Int} (h : w.ownsRow B 36 1 v K.length (kvs K)) : KLst w v K := by
  obtain ⟨_, ⟨rfl, h0⟩ | ⟨g, cap, cur, rfl, _, hg, hn, _, hs, hc⟩⟩ := h
  · exact .inl ⟨List.length_eq_zero_iff.1 h0, none, 0, rfl⟩
  · refine .inr ⟨g, 0, cap, rfl, fun k x hx => ?_⟩
    have hk : k < K.length := (List.getElem?_eq_some_iff.1 hx).1
    have e : (kvs K)[k]? = some (.int .u32 x) := by simp [kvs, hx]
    rw [← e, ← hc]
    simp only [World.cell?, hg]
    rw [List.getElem?_take_of_lt (by omega)]
    simp
theorem info_u32 : (Tryz.prog.info? 36).map (fun i => (i.zero, i.size, i.bytes)) = some (some (.int .u32 0), 1, 4) := by kernel_rfl
end Go.Proofs.YtaknmlohnifcdaaGreatDoor
end
