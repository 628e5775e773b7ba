import Derived.Test.YtnmnbogjnjbopaaDoorViewLow
import Derived.Test.YtnmnbogjnjbopaaDoorBoxAll
import Derived.Test.YtnmnbogjnjbopaaDoorSortMath
import Derived.Test.YtnmnbogjnjbopaaDoorGridRef2
import Derived.Deep.DeepCutAuto
import Derived.Deep.QuietTactic
import Derived.BigQuiet
import Derived.Test.YtnmnbogjnjbopaaDoorGridRef3
import Derived.Test.YtnmnbogjnjbopaaDoorViewKeys
import Derived.Test.YtnmnbogjnjbopaaDoorFac

/-! PairsLow: PairsMath, BoxRef2, PairsRef1, PairsRef2, PairsCon. -/

section
/-
  Package pairs: its results as lists (no program).
-/
namespace Go.Proofs.YtnmnbogjnjbopaaDoor
open Go.RowKit Go.Lib

def exB (x : Bd) : Int := max x.ax (-x.ax) + x.r
def eyB (x : Bd) : Int := max x.ay (-x.ay) + x.r
/-- The box of a body overlaps a box. -/
def ovA (x : Bd) (a b c d : Int) : Bool := ovlB (x.px - exB x) (x.py - eyB x) (x.px + exB x) (x.py + eyB x) a b c d
/-- The boxes of two bodies overlap. -/
def ovP (x y : Bd) : Bool := ovA x (y.px - exB y) (y.py - eyB y) (y.px + exB y) (y.py + eyB y)
theorem ovP_comm (x y : Bd) : ovP x y = ovP y x := by
  unfold ovP ovA ovlB
  rw [decide_eq_decide]
  omega
/-- The pairs of one body with those behind it. -/
def prO (x : Bd) (l : List Bd) : List (Int × Int) := (l.filter (ovP x)).map fun y => (x.k, y.k)
def pairsL : List Bd → List (Int × Int)
  | [] => []
  | x :: l => prO x l ++ pairsL l
def withL (L : List Bd) (a b c d : Int) : List Int := (L.filter fun x => ovA x a b c d).map (·.k)
def lonB (L : List Bd) (key : Int) : Bool := match look L key with
  | none => false
  | some x => L.all fun y => decide (y.k = key) || !ovP x y
theorem prO_cons (x y : Bd) (l : List Bd) : prO x (y :: l) = if ovP x y = true then (x.k, y.k) :: prO x l else prO x l := by
  unfold prO
  by_cases c : ovP x y = true
  · rw [if_pos c, List.filter_cons_of_pos c, List.map_cons]
  · rw [if_neg c, List.filter_cons_of_neg c]
theorem drop_at {α : Type} {L : List α} {i : Nat} {x : α} (h : L[i]? = some x) : L.drop i = x :: L.drop (i + 1) := by
  obtain ⟨hi, rfl⟩ := List.getElem?_eq_some_iff.1 h
  exact List.drop_eq_getElem_cons hi
theorem prO_at {L : List Bd} {k : Nat} {x y : Bd} (h : L[k]? = some y) : prO x (L.drop k) = if ovP x y = true then (x.k, y.k) :: prO x (L.drop (k + 1)) else prO x (L.drop (k + 1)) := by
  rw [drop_at h, prO_cons]
theorem pairs_at {L : List Bd} {i : Nat} {x : Bd} (h : L[i]? = some x) : pairsL (L.drop i) = prO x (L.drop (i + 1)) ++ pairsL (L.drop (i + 1)) := by
  rw [drop_at h]
  rfl
theorem prO_len (x : Bd) (l : List Bd) : (prO x l).length ≤ l.length := by
  unfold prO
  rw [List.length_map]
  exact List.length_filter_le _ _
theorem pairs_len : ∀ (L : List Bd), 2 * (pairsL L).length ≤ L.length * (L.length - 1)
  | [] => by simp [pairsL]
  | x :: l => by
    have h1 := pairs_len l
    have h2 := prO_len x l
    have e : (pairsL (x :: l)).length = (prO x l).length + (pairsL l).length := by simp [pairsL]
    rw [e, List.length_cons, Nat.add_sub_cancel]
    generalize (prO x l).length = a at *
    generalize (pairsL l).length = b at *
    generalize l.length = n at *
    cases n with
    | zero => simp at h1 h2 ⊢; omega
    | succ n =>
      rw [Nat.add_sub_cancel] at h1
      have e2 : (n + 1 + 1) * (n + 1) = (n + 1) * n + 2 * (n + 1) := by
        rw [Nat.mul_comm (n + 1 + 1), ← Nat.mul_comm (n + 1) 2, ← Nat.mul_add]
      omega
theorem pairs_max {L : List Bd} (h : L.length ≤ 40) : (pairsL L).length ≤ 780 := by
  have h1 := pairs_len L
  have h2 := Nat.mul_le_mul h (show L.length - 1 ≤ 39 by omega)
  omega
theorem asc_mem_lt {L : List Bd} (h : Asc L) : ∀ x ∈ L, ∀ y ∈ L, x.k = y.k → x = y := fun x hx y hy e => by
  have h1 := look_mem h.once hx
  have h2 := look_mem h.once hy
  rw [e] at h1
  exact Option.some.inj (h1.symm.trans h2)
theorem pairs_mem : ∀ {L : List Bd}, Asc L → ∀ p : Int × Int, p ∈ pairsL L ↔ ∃ x ∈ L, ∃ y ∈ L, x.k < y.k ∧ ovP x y = true ∧ p = (x.k, y.k)
  | [], _, p => by simp [pairsL]
  | a :: l, h, p => by
    simp only [pairsL, List.mem_append, pairs_mem h.2]
    constructor
    · rintro (hp | ⟨x, hx, y, hy, h1, h2, rfl⟩)
      · unfold prO at hp
        obtain ⟨y, hy, rfl⟩ := List.mem_map.1 hp
        rw [List.mem_filter] at hy
        exact ⟨a, by simp, y, by simp [hy.1], h.1 y hy.1, hy.2, rfl⟩
      · exact ⟨x, by simp [hx], y, by simp [hy], h1, h2, rfl⟩
    · rintro ⟨x, hx, y, hy, h1, h2, rfl⟩
      rcases List.mem_cons.1 hx with e | hx2
      · rcases List.mem_cons.1 hy with e2 | hy2
        · rw [e, e2] at h1; omega
        · rw [e] at h2 ⊢
          exact .inl (by unfold prO; exact List.mem_map.2 ⟨y, List.mem_filter.2 ⟨hy2, h2⟩, rfl⟩)
      · rcases List.mem_cons.1 hy with e2 | hy2
        · have := h.1 x hx2; rw [e2] at h1; omega
        · exact .inr ⟨x, hx2, y, hy2, h1, h2, rfl⟩
theorem prO_sort (x : Bd) : ∀ {l : List Bd}, Asc l → SortS pless (prO x l)
  | [], _ => List.Pairwise.nil
  | y :: l, h => by
    rw [prO_cons]
    by_cases c : ovP x y = true
    · rw [if_pos c]
      refine List.Pairwise.cons (fun p hp => ?_) (prO_sort x h.2)
      unfold prO at hp
      obtain ⟨z, hz, rfl⟩ := List.mem_map.1 hp
      have := h.1 z (List.mem_filter.1 hz).1
      unfold pless
      exact decide_eq_true (by dsimp only; omega)
    · rw [if_neg c]
      exact prO_sort x h.2
theorem pairs_sort : ∀ {L : List Bd}, Asc L → SortS pless (pairsL L)
  | [], _ => List.Pairwise.nil
  | a :: l, h => by
    show List.Pairwise _ (prO a l ++ pairsL l)
    rw [List.pairwise_append]
    refine ⟨prO_sort a h.2, pairs_sort h.2, fun p hp q hq => ?_⟩
    unfold prO at hp
    obtain ⟨y, _, rfl⟩ := List.mem_map.1 hp
    obtain ⟨u, hu, v, _, _, _, rfl⟩ := (pairs_mem h.2 q).1 hq
    have := h.1 u hu
    unfold pless
    exact decide_eq_true (by dsimp only; omega)
/-- A view without one of its bodies. -/
theorem gone_at : ∀ {L : List Bd}, Asc L → ∀ {k : Nat} {x : Bd}, L[k]? = some x → L.take k ++ L.drop (k + 1) = L.filter fun y => decide (y.k ≠ x.k)
  | [], _, _, _, h => by simp at h
  | a :: l, h, 0, x, hx => by
    simp at hx
    subst hx
    rw [List.filter_cons_of_neg (by simp), List.filter_eq_self.2 (fun y hy => decide_eq_true (by have := h.1 y hy; omega))]
    rfl
  | a :: l, h, k + 1, x, hx => by
    have hx' : l[k]? = some x := by simpa using hx
    have := h.1 x (List.mem_of_getElem? hx')
    rw [List.filter_cons_of_pos (p := fun y : Bd => decide (y.k ≠ x.k)) (decide_eq_true (by omega)), ← gone_at h.2 hx']
    rfl
theorem pairs_gone {L : List Bd} (h : Asc L) {k : Nat} {x : Bd} (hx : L[k]? = some x) : pairsL (L.take k ++ L.drop (k + 1)) = (pairsL L).filter fun p => decide (p.1 ≠ x.k ∧ p.2 ≠ x.k) := by
  rw [gone_at h hx]
  have hf := asc_filter (fun y : Bd => decide (y.k ≠ x.k)) h
  refine SortS.ext pless_strict (pairs_sort hf) ((pairs_sort h).filter _) (fun p => ?_)
  rw [pairs_mem hf, List.mem_filter, pairs_mem h]
  constructor
  · rintro ⟨a, ha, b, hb, h1, h2, rfl⟩
    rw [List.mem_filter] at ha hb
    exact ⟨⟨a, ha.1, b, hb.1, h1, h2, rfl⟩, decide_eq_true ⟨of_decide_eq_true ha.2, of_decide_eq_true hb.2⟩⟩
  · rintro ⟨⟨a, ha, b, hb, h1, h2, rfl⟩, hp⟩
    have := of_decide_eq_true hp
    exact ⟨a, List.mem_filter.2 ⟨ha, decide_eq_true this.1⟩, b, List.mem_filter.2 ⟨hb, decide_eq_true this.2⟩, h1, h2, rfl⟩
theorem lon_rest {L : List Bd} (h : Asc L) {k : Nat} {x : Bd} (hx : L[k]? = some x) : lonB L x.k = decide (((pairsL L).filter fun p => decide (p.1 ≠ x.k ∧ p.2 ≠ x.k)).length = (pairsL L).length) := by
  have hm := List.mem_of_getElem? hx
  unfold lonB
  rw [look_mem h.once hm]
  rw [Bool.eq_iff_iff, decide_eq_true_iff, List.length_filter_eq_length_iff]
  show (L.all fun y => decide (y.k = x.k) || !ovP x y) = true ↔ _
  rw [List.all_eq_true]
  constructor
  · intro ha p hp
    obtain ⟨u, hu, v, hv, h1, h2, rfl⟩ := (pairs_mem h p).1 hp
    refine decide_eq_true ⟨fun e => ?_, fun e => ?_⟩
    · have e' := asc_mem_lt h u hu x hm e
      subst e'
      have := ha v hv
      rw [h2, decide_eq_false (by omega)] at this
      exact absurd this (by decide)
    · have e' := asc_mem_lt h v hv x hm e
      subst e'
      have := ha u hu
      rw [ovP_comm, h2, decide_eq_false (by omega)] at this
      exact absurd this (by decide)
  · intro ha y hy
    by_cases e : y.k = x.k
    · rw [decide_eq_true e]; rfl
    · rw [decide_eq_false e]
      cases c : ovP x y
      · rfl
      · exfalso
        rcases (show x.k < y.k ∨ y.k < x.k by omega) with l | l
        · exact (of_decide_eq_true (ha _ ((pairs_mem h _).2 ⟨x, hm, y, hy, l, c, rfl⟩))).1 rfl
        · exact (of_decide_eq_true (ha _ ((pairs_mem h _).2 ⟨y, hy, x, hm, l, by rw [ovP_comm]; exact c, rfl⟩))).2 rfl
/-- A body moved. -/
def mvB (dx dy : Int) (x : Bd) : Bd := { x with px := x.px + dx, py := x.py + dy }
theorem ovP_mv (dx dy : Int) (x y : Bd) : ovP (mvB dx dy x) (mvB dx dy y) = ovP x y := by
  unfold ovP ovA ovlB
  rw [decide_eq_decide]
  have e1 : exB (mvB dx dy x) = exB x := rfl
  have e2 : eyB (mvB dx dy x) = eyB x := rfl
  have e3 : exB (mvB dx dy y) = exB y := rfl
  have e4 : eyB (mvB dx dy y) = eyB y := rfl
  have e5 : (mvB dx dy x).px = x.px + dx := rfl
  have e6 : (mvB dx dy x).py = x.py + dy := rfl
  have e7 : (mvB dx dy y).px = y.px + dx := rfl
  have e8 : (mvB dx dy y).py = y.py + dy := rfl
  rw [e1, e2, e3, e4, e5, e6, e7, e8]
  omega
theorem prO_mv (dx dy : Int) (x : Bd) : ∀ l : List Bd, prO (mvB dx dy x) (l.map (mvB dx dy)) = prO x l
  | [] => rfl
  | y :: l => by
    rw [List.map_cons, prO_cons, prO_cons, ovP_mv, prO_mv dx dy x l]
    rfl
theorem pairs_mv (dx dy : Int) : ∀ L : List Bd, pairsL (L.map (mvB dx dy)) = pairsL L
  | [] => rfl
  | x :: l => by
    show prO (mvB dx dy x) (l.map (mvB dx dy)) ++ pairsL (l.map (mvB dx dy)) = _
    rw [prO_mv, pairs_mv dx dy l]
    rfl
theorem asc_mv (dx dy : Int) : ∀ {L : List Bd}, Asc L → Asc (L.map (mvB dx dy))
  | [], _ => trivial
  | x :: l, h => ⟨fun y hy => by
    obtain ⟨z, hz, rfl⟩ := List.mem_map.1 hy
    exact h.1 z hz, asc_mv dx dy h.2⟩
theorem chk_mv {dx dy : Int} {x : Bd} (h : chkB x = 0) (hx : -1073741824 ≤ x.px + dx ∧ x.px + dx ≤ 1073741824) (hy : -1073741824 ≤ x.py + dy ∧ x.py + dy ≤ 1073741824) : chkB (mvB dx dy x) = 0 := by
  unfold chkB chk at h ⊢
  have e5 : (mvB dx dy x).px = x.px + dx := rfl
  have e6 : (mvB dx dy x).py = x.py + dy := rfl
  have e1 : (mvB dx dy x).r = x.r := rfl
  have e2 : (mvB dx dy x).ax = x.ax := rfl
  have e3 : (mvB dx dy x).ay = x.ay := rfl
  have e4 : (mvB dx dy x).m = x.m := rfl
  have e7 : (mvB dx dy x).o = x.o := rfl
  have e8 : (mvB dx dy x).vx = x.vx := rfl
  have e9 : (mvB dx dy x).vy = x.vy := rfl
  rw [e1, e2, e3, e4, e5, e6, e7, e8, e9]
  split at h
  · rename_i c1
    rw [if_pos c1]
    split at h
    · rename_i c2
      rw [if_pos c2]
      split at h
      · rename_i c3
        rw [if_pos c3]
        split at h
        · rename_i c4
          rw [if_pos c4]
          split at h
          · rename_i c5
            rw [if_pos ⟨hx, hy⟩]
            exact h
          · omega
        · omega
      · omega
    · omega
  · omega
/-- What a valid body's box lies within. -/
theorem ext_B {x : Bd} (h : chkB x = 0) : (4096 ≤ exB x ∧ exB x ≤ 8388608) ∧ (4096 ≤ eyB x ∧ eyB x ≤ 8388608) ∧ (-1073741824 ≤ x.px ∧ x.px ≤ 1073741824) ∧ (-1073741824 ≤ x.py ∧ x.py ≤ 1073741824) := by
  obtain ⟨h1, ⟨h2, h3⟩, h4, h5⟩ := chk_lim h
  unfold exB eyB
  omega
theorem ovP_self {x : Bd} (h : chkB x = 0) : ovP x x = true := by
  obtain ⟨h1, h2, _⟩ := ext_B h
  unfold ovP ovA ovlB
  exact decide_eq_true (by omega)
theorem within_self {L : List Bd} (h : Asc L) {b : Bd} (hb : b ∈ L) (hc : chkB b = 0) : withL L (b.px - exB b) (b.py - eyB b) (b.px + exB b) (b.py + eyB b) = (L.filter fun y => decide (y.k = b.k) || (pairsL L).contains (min b.k y.k, max b.k y.k)).map (·.k) := by
  unfold withL
  congr 1
  refine List.filter_congr (fun y hy => ?_)
  show ovP y b = _
  rw [Bool.eq_iff_iff, Bool.or_eq_true, decide_eq_true_iff, List.contains_iff_mem, pairs_mem h]
  constructor
  · intro c
    by_cases e : y.k = b.k
    · exact .inl e
    · refine .inr ?_
      rcases (show b.k < y.k ∨ y.k < b.k by omega) with l | l
      · exact ⟨b, hb, y, hy, l, by rw [ovP_comm]; exact c, by rw [Int.min_eq_left (by omega), Int.max_eq_right (by omega)]⟩
      · exact ⟨y, hy, b, hb, l, c, by rw [Int.min_eq_right (by omega), Int.max_eq_left (by omega)]⟩
  · rintro (e | ⟨u, hu, v, hv, h1, h2, e⟩)
    · rw [asc_mem_lt h y hy b hb e]
      exact ovP_self hc
    · injection e with e1 e2
      rcases (show b.k ≤ y.k ∨ y.k ≤ b.k by omega) with l | l
      · rw [Int.min_eq_left l] at e1
        rw [Int.max_eq_right l] at e2
        rw [asc_mem_lt h b hb u hu e1, asc_mem_lt h y hy v hv e2, ovP_comm]
        exact h2
      · rw [Int.min_eq_right l] at e1
        rw [Int.max_eq_left l] at e2
        rw [asc_mem_lt h y hy u hu e1, asc_mem_lt h b hb v hv e2]
        exact h2
end Go.Proofs.YtnmnbogjnjbopaaDoor
end

section
/-
  Package box: the reference's Overlap.
-/
namespace Go.Proofs.YtnmnbogjnjbopaaDoor
open Go.RowKit Go.Lib

set_option maxRecDepth 100000 in
set_option maxHeartbeats 2000000 in
theorem rov (xa ya za ta xb yb zb tb : Int) (z : Bool) (hz : ovlB xa ya za ta xb yb zb tb = z) : ROv xa ya za ta xb yb zb tb z := fun w => by
  have C1 := Lib.hid (rem xa ya za ta _ rfl)
  have C2 := Lib.hid (rem xb yb zb tb _ rfl)
  by_cases p1 : za < xa ∨ ta < ya
  · rw [show empB xa ya za ta = true from decide_eq_true p1] at C1
    obtain rfl : false = z := by rw [← hz]; unfold ovlB; exact (decide_eq_false (by omega)).symm
    clear hz
    go_enter Tryd.func24, Tryd.ntmps24
    go_wp2_with (first
      | ((with_reducible refine (C1.out _).mono ?_); rintro e w1 ⟨rfl, g1⟩
         have p0 := kept_cell g1 (b := w.heap.size) (o := 0) (v := .int .i32 xa) (by (repeat (first | rw [World.cell?_drew] | rw [World.cell?_alloc_past _ _ _ (by first | (simp; done) | (simp; omega))])); rw [World.cell?_alloc_at _ _ _ _ (by simp)]; rfl)
         have p1 := kept_cell g1 (b := w.heap.size) (o := 1) (v := .int .i32 ya) (by (repeat (first | rw [World.cell?_drew] | rw [World.cell?_alloc_past _ _ _ (by first | (simp; done) | (simp; omega))])); rw [World.cell?_alloc_at _ _ _ _ (by simp)]; rfl)
         have p2 := kept_cell g1 (b := w.heap.size) (o := 2) (v := .int .i32 za) (by (repeat (first | rw [World.cell?_drew] | rw [World.cell?_alloc_past _ _ _ (by first | (simp; done) | (simp; omega))])); rw [World.cell?_alloc_at _ _ _ _ (by simp)]; rfl)
         have p3 := kept_cell g1 (b := w.heap.size) (o := 3) (v := .int .i32 ta) (by (repeat (first | rw [World.cell?_drew] | rw [World.cell?_alloc_past _ _ _ (by first | (simp; done) | (simp; omega))])); rw [World.cell?_alloc_at _ _ _ _ (by simp)]; rfl)
         have q0 := kept_cell g1 (b := w.heap.size + 1) (o := 0) (v := .int .i32 xb) (by (repeat (first | rw [World.cell?_drew] | rw [World.cell?_alloc_past _ _ _ (by first | (simp; done) | (simp; omega))])); rw [World.cell?_alloc_at _ _ _ _ (by simp)]; rfl)
         have q1 := kept_cell g1 (b := w.heap.size + 1) (o := 1) (v := .int .i32 yb) (by (repeat (first | rw [World.cell?_drew] | rw [World.cell?_alloc_past _ _ _ (by first | (simp; done) | (simp; omega))])); rw [World.cell?_alloc_at _ _ _ _ (by simp)]; rfl)
         have q2 := kept_cell g1 (b := w.heap.size + 1) (o := 2) (v := .int .i32 zb) (by (repeat (first | rw [World.cell?_drew] | rw [World.cell?_alloc_past _ _ _ (by first | (simp; done) | (simp; omega))])); rw [World.cell?_alloc_at _ _ _ _ (by simp)]; rfl)
         have q3 := kept_cell g1 (b := w.heap.size + 1) (o := 3) (v := .int .i32 tb) (by (repeat (first | rw [World.cell?_drew] | rw [World.cell?_alloc_past _ _ _ (by first | (simp; done) | (simp; omega))])); rw [World.cell?_alloc_at _ _ _ _ (by simp)]; rfl)
         have gg := grown_trans (((Grown.refl _).alloc _ _).alloc _ _) g1
         have zp_w1 : w.heap.size < w1.heap.size := World.block_lt_of_cell? _ _ p0
         have zq_w1 : w.heap.size + 1 < w1.heap.size := World.block_lt_of_cell? _ _ q0)
      | ((with_reducible refine (C2.out _).mono ?_); rintro e w2 ⟨rfl, g2⟩
         replace p0 := kept_cell g2 (b := w.heap.size) (o := 0) (v := .int .i32 xa) p0
         replace p1 := kept_cell g2 (b := w.heap.size) (o := 1) (v := .int .i32 ya) p1
         replace p2 := kept_cell g2 (b := w.heap.size) (o := 2) (v := .int .i32 za) p2
         replace p3 := kept_cell g2 (b := w.heap.size) (o := 3) (v := .int .i32 ta) p3
         replace q0 := kept_cell g2 (b := w.heap.size + 1) (o := 0) (v := .int .i32 xb) q0
         replace q1 := kept_cell g2 (b := w.heap.size + 1) (o := 1) (v := .int .i32 yb) q1
         replace q2 := kept_cell g2 (b := w.heap.size + 1) (o := 2) (v := .int .i32 zb) q2
         replace q3 := kept_cell g2 (b := w.heap.size + 1) (o := 3) (v := .int .i32 tb) q3
         replace gg := grown_trans gg g2))
    go_ret
    exact ⟨rfl, gg⟩
  rw [show empB xa ya za ta = false from decide_eq_false p1] at C1
  by_cases p2 : zb < xb ∨ tb < yb
  · rw [show empB xb yb zb tb = true from decide_eq_true p2] at C2
    obtain rfl : false = z := by rw [← hz]; unfold ovlB; exact (decide_eq_false (by omega)).symm
    clear hz
    go_enter Tryd.func24, Tryd.ntmps24
    go_wp2_with (first
      | ((with_reducible refine (C1.out _).mono ?_); rintro e w1 ⟨rfl, g1⟩
         have p0 := kept_cell g1 (b := w.heap.size) (o := 0) (v := .int .i32 xa) (by (repeat (first | rw [World.cell?_drew] | rw [World.cell?_alloc_past _ _ _ (by first | (simp; done) | (simp; omega))])); rw [World.cell?_alloc_at _ _ _ _ (by simp)]; rfl)
         have p1 := kept_cell g1 (b := w.heap.size) (o := 1) (v := .int .i32 ya) (by (repeat (first | rw [World.cell?_drew] | rw [World.cell?_alloc_past _ _ _ (by first | (simp; done) | (simp; omega))])); rw [World.cell?_alloc_at _ _ _ _ (by simp)]; rfl)
         have p2 := kept_cell g1 (b := w.heap.size) (o := 2) (v := .int .i32 za) (by (repeat (first | rw [World.cell?_drew] | rw [World.cell?_alloc_past _ _ _ (by first | (simp; done) | (simp; omega))])); rw [World.cell?_alloc_at _ _ _ _ (by simp)]; rfl)
         have p3 := kept_cell g1 (b := w.heap.size) (o := 3) (v := .int .i32 ta) (by (repeat (first | rw [World.cell?_drew] | rw [World.cell?_alloc_past _ _ _ (by first | (simp; done) | (simp; omega))])); rw [World.cell?_alloc_at _ _ _ _ (by simp)]; rfl)
         have q0 := kept_cell g1 (b := w.heap.size + 1) (o := 0) (v := .int .i32 xb) (by (repeat (first | rw [World.cell?_drew] | rw [World.cell?_alloc_past _ _ _ (by first | (simp; done) | (simp; omega))])); rw [World.cell?_alloc_at _ _ _ _ (by simp)]; rfl)
         have q1 := kept_cell g1 (b := w.heap.size + 1) (o := 1) (v := .int .i32 yb) (by (repeat (first | rw [World.cell?_drew] | rw [World.cell?_alloc_past _ _ _ (by first | (simp; done) | (simp; omega))])); rw [World.cell?_alloc_at _ _ _ _ (by simp)]; rfl)
         have q2 := kept_cell g1 (b := w.heap.size + 1) (o := 2) (v := .int .i32 zb) (by (repeat (first | rw [World.cell?_drew] | rw [World.cell?_alloc_past _ _ _ (by first | (simp; done) | (simp; omega))])); rw [World.cell?_alloc_at _ _ _ _ (by simp)]; rfl)
         have q3 := kept_cell g1 (b := w.heap.size + 1) (o := 3) (v := .int .i32 tb) (by (repeat (first | rw [World.cell?_drew] | rw [World.cell?_alloc_past _ _ _ (by first | (simp; done) | (simp; omega))])); rw [World.cell?_alloc_at _ _ _ _ (by simp)]; rfl)
         have gg := grown_trans (((Grown.refl _).alloc _ _).alloc _ _) g1
         have zp_w1 : w.heap.size < w1.heap.size := World.block_lt_of_cell? _ _ p0
         have zq_w1 : w.heap.size + 1 < w1.heap.size := World.block_lt_of_cell? _ _ q0)
      | ((with_reducible refine (C2.out _).mono ?_); rintro e w2 ⟨rfl, g2⟩
         replace p0 := kept_cell g2 (b := w.heap.size) (o := 0) (v := .int .i32 xa) p0
         replace p1 := kept_cell g2 (b := w.heap.size) (o := 1) (v := .int .i32 ya) p1
         replace p2 := kept_cell g2 (b := w.heap.size) (o := 2) (v := .int .i32 za) p2
         replace p3 := kept_cell g2 (b := w.heap.size) (o := 3) (v := .int .i32 ta) p3
         replace q0 := kept_cell g2 (b := w.heap.size + 1) (o := 0) (v := .int .i32 xb) q0
         replace q1 := kept_cell g2 (b := w.heap.size + 1) (o := 1) (v := .int .i32 yb) q1
         replace q2 := kept_cell g2 (b := w.heap.size + 1) (o := 2) (v := .int .i32 zb) q2
         replace q3 := kept_cell g2 (b := w.heap.size + 1) (o := 3) (v := .int .i32 tb) q3
         replace gg := grown_trans gg g2))
    go_ret
    exact ⟨rfl, gg⟩
  rw [show empB xb yb zb tb = false from decide_eq_false p2] at C2
  by_cases k0 : xa ≤ zb
  rotate_left
  · have d0 : decide (xa ≤ zb) = false := decide_eq_false k0
    obtain rfl : false = z := by rw [← hz]; unfold ovlB; exact (decide_eq_false (by omega)).symm
    clear hz
    go_enter Tryd.func24, Tryd.ntmps24
    go_wp2_with (first
      | ((with_reducible refine (C1.out _).mono ?_); rintro e w1 ⟨rfl, g1⟩
         have p0 := kept_cell g1 (b := w.heap.size) (o := 0) (v := .int .i32 xa) (by (repeat (first | rw [World.cell?_drew] | rw [World.cell?_alloc_past _ _ _ (by first | (simp; done) | (simp; omega))])); rw [World.cell?_alloc_at _ _ _ _ (by simp)]; rfl)
         have p1 := kept_cell g1 (b := w.heap.size) (o := 1) (v := .int .i32 ya) (by (repeat (first | rw [World.cell?_drew] | rw [World.cell?_alloc_past _ _ _ (by first | (simp; done) | (simp; omega))])); rw [World.cell?_alloc_at _ _ _ _ (by simp)]; rfl)
         have p2 := kept_cell g1 (b := w.heap.size) (o := 2) (v := .int .i32 za) (by (repeat (first | rw [World.cell?_drew] | rw [World.cell?_alloc_past _ _ _ (by first | (simp; done) | (simp; omega))])); rw [World.cell?_alloc_at _ _ _ _ (by simp)]; rfl)
         have p3 := kept_cell g1 (b := w.heap.size) (o := 3) (v := .int .i32 ta) (by (repeat (first | rw [World.cell?_drew] | rw [World.cell?_alloc_past _ _ _ (by first | (simp; done) | (simp; omega))])); rw [World.cell?_alloc_at _ _ _ _ (by simp)]; rfl)
         have q0 := kept_cell g1 (b := w.heap.size + 1) (o := 0) (v := .int .i32 xb) (by (repeat (first | rw [World.cell?_drew] | rw [World.cell?_alloc_past _ _ _ (by first | (simp; done) | (simp; omega))])); rw [World.cell?_alloc_at _ _ _ _ (by simp)]; rfl)
         have q1 := kept_cell g1 (b := w.heap.size + 1) (o := 1) (v := .int .i32 yb) (by (repeat (first | rw [World.cell?_drew] | rw [World.cell?_alloc_past _ _ _ (by first | (simp; done) | (simp; omega))])); rw [World.cell?_alloc_at _ _ _ _ (by simp)]; rfl)
         have q2 := kept_cell g1 (b := w.heap.size + 1) (o := 2) (v := .int .i32 zb) (by (repeat (first | rw [World.cell?_drew] | rw [World.cell?_alloc_past _ _ _ (by first | (simp; done) | (simp; omega))])); rw [World.cell?_alloc_at _ _ _ _ (by simp)]; rfl)
         have q3 := kept_cell g1 (b := w.heap.size + 1) (o := 3) (v := .int .i32 tb) (by (repeat (first | rw [World.cell?_drew] | rw [World.cell?_alloc_past _ _ _ (by first | (simp; done) | (simp; omega))])); rw [World.cell?_alloc_at _ _ _ _ (by simp)]; rfl)
         have gg := grown_trans (((Grown.refl _).alloc _ _).alloc _ _) g1
         have zp_w1 : w.heap.size < w1.heap.size := World.block_lt_of_cell? _ _ p0
         have zq_w1 : w.heap.size + 1 < w1.heap.size := World.block_lt_of_cell? _ _ q0)
      | ((with_reducible refine (C2.out _).mono ?_); rintro e w2 ⟨rfl, g2⟩
         replace p0 := kept_cell g2 (b := w.heap.size) (o := 0) (v := .int .i32 xa) p0
         replace p1 := kept_cell g2 (b := w.heap.size) (o := 1) (v := .int .i32 ya) p1
         replace p2 := kept_cell g2 (b := w.heap.size) (o := 2) (v := .int .i32 za) p2
         replace p3 := kept_cell g2 (b := w.heap.size) (o := 3) (v := .int .i32 ta) p3
         replace q0 := kept_cell g2 (b := w.heap.size + 1) (o := 0) (v := .int .i32 xb) q0
         replace q1 := kept_cell g2 (b := w.heap.size + 1) (o := 1) (v := .int .i32 yb) q1
         replace q2 := kept_cell g2 (b := w.heap.size + 1) (o := 2) (v := .int .i32 zb) q2
         replace q3 := kept_cell g2 (b := w.heap.size + 1) (o := 3) (v := .int .i32 tb) q3
         replace gg := grown_trans gg g2))
    go_ret
    exact ⟨rfl, gg⟩
  have d0 : decide (xa ≤ zb) = true := decide_eq_true k0
  by_cases k1 : xb ≤ za
  rotate_left
  · have d1 : decide (xb ≤ za) = false := decide_eq_false k1
    obtain rfl : false = z := by rw [← hz]; unfold ovlB; exact (decide_eq_false (by omega)).symm
    clear hz
    go_enter Tryd.func24, Tryd.ntmps24
    go_wp2_with (first
      | ((with_reducible refine (C1.out _).mono ?_); rintro e w1 ⟨rfl, g1⟩
         have p0 := kept_cell g1 (b := w.heap.size) (o := 0) (v := .int .i32 xa) (by (repeat (first | rw [World.cell?_drew] | rw [World.cell?_alloc_past _ _ _ (by first | (simp; done) | (simp; omega))])); rw [World.cell?_alloc_at _ _ _ _ (by simp)]; rfl)
         have p1 := kept_cell g1 (b := w.heap.size) (o := 1) (v := .int .i32 ya) (by (repeat (first | rw [World.cell?_drew] | rw [World.cell?_alloc_past _ _ _ (by first | (simp; done) | (simp; omega))])); rw [World.cell?_alloc_at _ _ _ _ (by simp)]; rfl)
         have p2 := kept_cell g1 (b := w.heap.size) (o := 2) (v := .int .i32 za) (by (repeat (first | rw [World.cell?_drew] | rw [World.cell?_alloc_past _ _ _ (by first | (simp; done) | (simp; omega))])); rw [World.cell?_alloc_at _ _ _ _ (by simp)]; rfl)
         have p3 := kept_cell g1 (b := w.heap.size) (o := 3) (v := .int .i32 ta) (by (repeat (first | rw [World.cell?_drew] | rw [World.cell?_alloc_past _ _ _ (by first | (simp; done) | (simp; omega))])); rw [World.cell?_alloc_at _ _ _ _ (by simp)]; rfl)
         have q0 := kept_cell g1 (b := w.heap.size + 1) (o := 0) (v := .int .i32 xb) (by (repeat (first | rw [World.cell?_drew] | rw [World.cell?_alloc_past _ _ _ (by first | (simp; done) | (simp; omega))])); rw [World.cell?_alloc_at _ _ _ _ (by simp)]; rfl)
         have q1 := kept_cell g1 (b := w.heap.size + 1) (o := 1) (v := .int .i32 yb) (by (repeat (first | rw [World.cell?_drew] | rw [World.cell?_alloc_past _ _ _ (by first | (simp; done) | (simp; omega))])); rw [World.cell?_alloc_at _ _ _ _ (by simp)]; rfl)
         have q2 := kept_cell g1 (b := w.heap.size + 1) (o := 2) (v := .int .i32 zb) (by (repeat (first | rw [World.cell?_drew] | rw [World.cell?_alloc_past _ _ _ (by first | (simp; done) | (simp; omega))])); rw [World.cell?_alloc_at _ _ _ _ (by simp)]; rfl)
         have q3 := kept_cell g1 (b := w.heap.size + 1) (o := 3) (v := .int .i32 tb) (by (repeat (first | rw [World.cell?_drew] | rw [World.cell?_alloc_past _ _ _ (by first | (simp; done) | (simp; omega))])); rw [World.cell?_alloc_at _ _ _ _ (by simp)]; rfl)
         have gg := grown_trans (((Grown.refl _).alloc _ _).alloc _ _) g1
         have zp_w1 : w.heap.size < w1.heap.size := World.block_lt_of_cell? _ _ p0
         have zq_w1 : w.heap.size + 1 < w1.heap.size := World.block_lt_of_cell? _ _ q0)
      | ((with_reducible refine (C2.out _).mono ?_); rintro e w2 ⟨rfl, g2⟩
         replace p0 := kept_cell g2 (b := w.heap.size) (o := 0) (v := .int .i32 xa) p0
         replace p1 := kept_cell g2 (b := w.heap.size) (o := 1) (v := .int .i32 ya) p1
         replace p2 := kept_cell g2 (b := w.heap.size) (o := 2) (v := .int .i32 za) p2
         replace p3 := kept_cell g2 (b := w.heap.size) (o := 3) (v := .int .i32 ta) p3
         replace q0 := kept_cell g2 (b := w.heap.size + 1) (o := 0) (v := .int .i32 xb) q0
         replace q1 := kept_cell g2 (b := w.heap.size + 1) (o := 1) (v := .int .i32 yb) q1
         replace q2 := kept_cell g2 (b := w.heap.size + 1) (o := 2) (v := .int .i32 zb) q2
         replace q3 := kept_cell g2 (b := w.heap.size + 1) (o := 3) (v := .int .i32 tb) q3
         replace gg := grown_trans gg g2))
    go_ret
    exact ⟨rfl, gg⟩
  have d1 : decide (xb ≤ za) = true := decide_eq_true k1
  by_cases k2 : ya ≤ tb
  rotate_left
  · have d2 : decide (ya ≤ tb) = false := decide_eq_false k2
    obtain rfl : false = z := by rw [← hz]; unfold ovlB; exact (decide_eq_false (by omega)).symm
    clear hz
    go_enter Tryd.func24, Tryd.ntmps24
    go_wp2_with (first
      | ((with_reducible refine (C1.out _).mono ?_); rintro e w1 ⟨rfl, g1⟩
         have p0 := kept_cell g1 (b := w.heap.size) (o := 0) (v := .int .i32 xa) (by (repeat (first | rw [World.cell?_drew] | rw [World.cell?_alloc_past _ _ _ (by first | (simp; done) | (simp; omega))])); rw [World.cell?_alloc_at _ _ _ _ (by simp)]; rfl)
         have p1 := kept_cell g1 (b := w.heap.size) (o := 1) (v := .int .i32 ya) (by (repeat (first | rw [World.cell?_drew] | rw [World.cell?_alloc_past _ _ _ (by first | (simp; done) | (simp; omega))])); rw [World.cell?_alloc_at _ _ _ _ (by simp)]; rfl)
         have p2 := kept_cell g1 (b := w.heap.size) (o := 2) (v := .int .i32 za) (by (repeat (first | rw [World.cell?_drew] | rw [World.cell?_alloc_past _ _ _ (by first | (simp; done) | (simp; omega))])); rw [World.cell?_alloc_at _ _ _ _ (by simp)]; rfl)
         have p3 := kept_cell g1 (b := w.heap.size) (o := 3) (v := .int .i32 ta) (by (repeat (first | rw [World.cell?_drew] | rw [World.cell?_alloc_past _ _ _ (by first | (simp; done) | (simp; omega))])); rw [World.cell?_alloc_at _ _ _ _ (by simp)]; rfl)
         have q0 := kept_cell g1 (b := w.heap.size + 1) (o := 0) (v := .int .i32 xb) (by (repeat (first | rw [World.cell?_drew] | rw [World.cell?_alloc_past _ _ _ (by first | (simp; done) | (simp; omega))])); rw [World.cell?_alloc_at _ _ _ _ (by simp)]; rfl)
         have q1 := kept_cell g1 (b := w.heap.size + 1) (o := 1) (v := .int .i32 yb) (by (repeat (first | rw [World.cell?_drew] | rw [World.cell?_alloc_past _ _ _ (by first | (simp; done) | (simp; omega))])); rw [World.cell?_alloc_at _ _ _ _ (by simp)]; rfl)
         have q2 := kept_cell g1 (b := w.heap.size + 1) (o := 2) (v := .int .i32 zb) (by (repeat (first | rw [World.cell?_drew] | rw [World.cell?_alloc_past _ _ _ (by first | (simp; done) | (simp; omega))])); rw [World.cell?_alloc_at _ _ _ _ (by simp)]; rfl)
         have q3 := kept_cell g1 (b := w.heap.size + 1) (o := 3) (v := .int .i32 tb) (by (repeat (first | rw [World.cell?_drew] | rw [World.cell?_alloc_past _ _ _ (by first | (simp; done) | (simp; omega))])); rw [World.cell?_alloc_at _ _ _ _ (by simp)]; rfl)
         have gg := grown_trans (((Grown.refl _).alloc _ _).alloc _ _) g1
         have zp_w1 : w.heap.size < w1.heap.size := World.block_lt_of_cell? _ _ p0
         have zq_w1 : w.heap.size + 1 < w1.heap.size := World.block_lt_of_cell? _ _ q0)
      | ((with_reducible refine (C2.out _).mono ?_); rintro e w2 ⟨rfl, g2⟩
         replace p0 := kept_cell g2 (b := w.heap.size) (o := 0) (v := .int .i32 xa) p0
         replace p1 := kept_cell g2 (b := w.heap.size) (o := 1) (v := .int .i32 ya) p1
         replace p2 := kept_cell g2 (b := w.heap.size) (o := 2) (v := .int .i32 za) p2
         replace p3 := kept_cell g2 (b := w.heap.size) (o := 3) (v := .int .i32 ta) p3
         replace q0 := kept_cell g2 (b := w.heap.size + 1) (o := 0) (v := .int .i32 xb) q0
         replace q1 := kept_cell g2 (b := w.heap.size + 1) (o := 1) (v := .int .i32 yb) q1
         replace q2 := kept_cell g2 (b := w.heap.size + 1) (o := 2) (v := .int .i32 zb) q2
         replace q3 := kept_cell g2 (b := w.heap.size + 1) (o := 3) (v := .int .i32 tb) q3
         replace gg := grown_trans gg g2))
    go_ret
    exact ⟨rfl, gg⟩
  have d2 : decide (ya ≤ tb) = true := decide_eq_true k2
  by_cases k3 : yb ≤ ta
  rotate_left
  · have d3 : decide (yb ≤ ta) = false := decide_eq_false k3
    obtain rfl : false = z := by rw [← hz]; unfold ovlB; exact (decide_eq_false (by omega)).symm
    clear hz
    go_enter Tryd.func24, Tryd.ntmps24
    go_wp2_with (first
      | ((with_reducible refine (C1.out _).mono ?_); rintro e w1 ⟨rfl, g1⟩
         have p0 := kept_cell g1 (b := w.heap.size) (o := 0) (v := .int .i32 xa) (by (repeat (first | rw [World.cell?_drew] | rw [World.cell?_alloc_past _ _ _ (by first | (simp; done) | (simp; omega))])); rw [World.cell?_alloc_at _ _ _ _ (by simp)]; rfl)
         have p1 := kept_cell g1 (b := w.heap.size) (o := 1) (v := .int .i32 ya) (by (repeat (first | rw [World.cell?_drew] | rw [World.cell?_alloc_past _ _ _ (by first | (simp; done) | (simp; omega))])); rw [World.cell?_alloc_at _ _ _ _ (by simp)]; rfl)
         have p2 := kept_cell g1 (b := w.heap.size) (o := 2) (v := .int .i32 za) (by (repeat (first | rw [World.cell?_drew] | rw [World.cell?_alloc_past _ _ _ (by first | (simp; done) | (simp; omega))])); rw [World.cell?_alloc_at _ _ _ _ (by simp)]; rfl)
         have p3 := kept_cell g1 (b := w.heap.size) (o := 3) (v := .int .i32 ta) (by (repeat (first | rw [World.cell?_drew] | rw [World.cell?_alloc_past _ _ _ (by first | (simp; done) | (simp; omega))])); rw [World.cell?_alloc_at _ _ _ _ (by simp)]; rfl)
         have q0 := kept_cell g1 (b := w.heap.size + 1) (o := 0) (v := .int .i32 xb) (by (repeat (first | rw [World.cell?_drew] | rw [World.cell?_alloc_past _ _ _ (by first | (simp; done) | (simp; omega))])); rw [World.cell?_alloc_at _ _ _ _ (by simp)]; rfl)
         have q1 := kept_cell g1 (b := w.heap.size + 1) (o := 1) (v := .int .i32 yb) (by (repeat (first | rw [World.cell?_drew] | rw [World.cell?_alloc_past _ _ _ (by first | (simp; done) | (simp; omega))])); rw [World.cell?_alloc_at _ _ _ _ (by simp)]; rfl)
         have q2 := kept_cell g1 (b := w.heap.size + 1) (o := 2) (v := .int .i32 zb) (by (repeat (first | rw [World.cell?_drew] | rw [World.cell?_alloc_past _ _ _ (by first | (simp; done) | (simp; omega))])); rw [World.cell?_alloc_at _ _ _ _ (by simp)]; rfl)
         have q3 := kept_cell g1 (b := w.heap.size + 1) (o := 3) (v := .int .i32 tb) (by (repeat (first | rw [World.cell?_drew] | rw [World.cell?_alloc_past _ _ _ (by first | (simp; done) | (simp; omega))])); rw [World.cell?_alloc_at _ _ _ _ (by simp)]; rfl)
         have gg := grown_trans (((Grown.refl _).alloc _ _).alloc _ _) g1
         have zp_w1 : w.heap.size < w1.heap.size := World.block_lt_of_cell? _ _ p0
         have zq_w1 : w.heap.size + 1 < w1.heap.size := World.block_lt_of_cell? _ _ q0)
      | ((with_reducible refine (C2.out _).mono ?_); rintro e w2 ⟨rfl, g2⟩
         replace p0 := kept_cell g2 (b := w.heap.size) (o := 0) (v := .int .i32 xa) p0
         replace p1 := kept_cell g2 (b := w.heap.size) (o := 1) (v := .int .i32 ya) p1
         replace p2 := kept_cell g2 (b := w.heap.size) (o := 2) (v := .int .i32 za) p2
         replace p3 := kept_cell g2 (b := w.heap.size) (o := 3) (v := .int .i32 ta) p3
         replace q0 := kept_cell g2 (b := w.heap.size + 1) (o := 0) (v := .int .i32 xb) q0
         replace q1 := kept_cell g2 (b := w.heap.size + 1) (o := 1) (v := .int .i32 yb) q1
         replace q2 := kept_cell g2 (b := w.heap.size + 1) (o := 2) (v := .int .i32 zb) q2
         replace q3 := kept_cell g2 (b := w.heap.size + 1) (o := 3) (v := .int .i32 tb) q3
         replace gg := grown_trans gg g2))
    go_ret
    exact ⟨rfl, gg⟩
  have d3 : decide (yb ≤ ta) = true := decide_eq_true k3
  obtain rfl : true = z := by rw [← hz]; unfold ovlB; exact (decide_eq_true (by omega)).symm
  clear hz
  go_enter Tryd.func24, Tryd.ntmps24
  go_wp2_with (first
    | ((with_reducible refine (C1.out _).mono ?_); rintro e w1 ⟨rfl, g1⟩
       have p0 := kept_cell g1 (b := w.heap.size) (o := 0) (v := .int .i32 xa) (by (repeat (first | rw [World.cell?_drew] | rw [World.cell?_alloc_past _ _ _ (by first | (simp; done) | (simp; omega))])); rw [World.cell?_alloc_at _ _ _ _ (by simp)]; rfl)
       have p1 := kept_cell g1 (b := w.heap.size) (o := 1) (v := .int .i32 ya) (by (repeat (first | rw [World.cell?_drew] | rw [World.cell?_alloc_past _ _ _ (by first | (simp; done) | (simp; omega))])); rw [World.cell?_alloc_at _ _ _ _ (by simp)]; rfl)
       have p2 := kept_cell g1 (b := w.heap.size) (o := 2) (v := .int .i32 za) (by (repeat (first | rw [World.cell?_drew] | rw [World.cell?_alloc_past _ _ _ (by first | (simp; done) | (simp; omega))])); rw [World.cell?_alloc_at _ _ _ _ (by simp)]; rfl)
       have p3 := kept_cell g1 (b := w.heap.size) (o := 3) (v := .int .i32 ta) (by (repeat (first | rw [World.cell?_drew] | rw [World.cell?_alloc_past _ _ _ (by first | (simp; done) | (simp; omega))])); rw [World.cell?_alloc_at _ _ _ _ (by simp)]; rfl)
       have q0 := kept_cell g1 (b := w.heap.size + 1) (o := 0) (v := .int .i32 xb) (by (repeat (first | rw [World.cell?_drew] | rw [World.cell?_alloc_past _ _ _ (by first | (simp; done) | (simp; omega))])); rw [World.cell?_alloc_at _ _ _ _ (by simp)]; rfl)
       have q1 := kept_cell g1 (b := w.heap.size + 1) (o := 1) (v := .int .i32 yb) (by (repeat (first | rw [World.cell?_drew] | rw [World.cell?_alloc_past _ _ _ (by first | (simp; done) | (simp; omega))])); rw [World.cell?_alloc_at _ _ _ _ (by simp)]; rfl)
       have q2 := kept_cell g1 (b := w.heap.size + 1) (o := 2) (v := .int .i32 zb) (by (repeat (first | rw [World.cell?_drew] | rw [World.cell?_alloc_past _ _ _ (by first | (simp; done) | (simp; omega))])); rw [World.cell?_alloc_at _ _ _ _ (by simp)]; rfl)
       have q3 := kept_cell g1 (b := w.heap.size + 1) (o := 3) (v := .int .i32 tb) (by (repeat (first | rw [World.cell?_drew] | rw [World.cell?_alloc_past _ _ _ (by first | (simp; done) | (simp; omega))])); rw [World.cell?_alloc_at _ _ _ _ (by simp)]; rfl)
       have gg := grown_trans (((Grown.refl _).alloc _ _).alloc _ _) g1
       have zp_w1 : w.heap.size < w1.heap.size := World.block_lt_of_cell? _ _ p0
       have zq_w1 : w.heap.size + 1 < w1.heap.size := World.block_lt_of_cell? _ _ q0)
    | ((with_reducible refine (C2.out _).mono ?_); rintro e w2 ⟨rfl, g2⟩
       replace p0 := kept_cell g2 (b := w.heap.size) (o := 0) (v := .int .i32 xa) p0
       replace p1 := kept_cell g2 (b := w.heap.size) (o := 1) (v := .int .i32 ya) p1
       replace p2 := kept_cell g2 (b := w.heap.size) (o := 2) (v := .int .i32 za) p2
       replace p3 := kept_cell g2 (b := w.heap.size) (o := 3) (v := .int .i32 ta) p3
       replace q0 := kept_cell g2 (b := w.heap.size + 1) (o := 0) (v := .int .i32 xb) q0
       replace q1 := kept_cell g2 (b := w.heap.size + 1) (o := 1) (v := .int .i32 yb) q1
       replace q2 := kept_cell g2 (b := w.heap.size + 1) (o := 2) (v := .int .i32 zb) q2
       replace q3 := kept_cell g2 (b := w.heap.size + 1) (o := 3) (v := .int .i32 tb) q3
       replace gg := grown_trans gg g2))
  go_ret
  exact ⟨rfl, gg⟩
end Go.Proofs.YtnmnbogjnjbopaaDoor
end

section
/-
  Package pairs: the reference's Find; the boxes of valid bodies.
-/
namespace Go.Proofs.YtnmnbogjnjbopaaDoor
open Go.RowKit Go.Lib

/-- The reference's box of a body. -/
abbrev ROk (x : Bd) (a b c d : Int) : Prop := ∀ w, Calls Tryd.prog 36 #[.agg #[.int .u32 x.k, .int .i32 x.r, .int .i32 x.ax, .int .i32 x.ay, .int .i32 x.m, .int .i32 x.o, .int .i32 x.px, .int .i32 x.py, .int .i32 x.vx, .int .i32 x.vy]] w fun e w' => e = .returned (.agg #[.int .i32 a, .int .i32 b, .int .i32 c, .int .i32 d]) ∧ Kep w.heap.size w w'
abbrev RVk (xa ya za ta xb yb zb tb : Int) (z : Bool) : Prop := ∀ w, Calls Tryd.prog 24 #[.agg #[.int .i32 xa, .int .i32 ya, .int .i32 za, .int .i32 ta], .agg #[.int .i32 xb, .int .i32 yb, .int .i32 zb, .int .i32 tb]] w fun e w' => e = .returned (.bool z) ∧ Kep w.heap.size w w'
/-- The edges of a body's box. -/
structure EdB (x : Bd) (a b c d : Int) : Prop where
  a : a = x.px - exB x
  b : b = x.py - eyB x
  c : c = x.px + exB x
  d : d = x.py + eyB x
theorem rok {x : Bd} (h : chkB x = 0) : ∃ a b c d, Hid (ROk x a b c d) ∧ EdB x a b c d := by
  obtain ⟨h1, h2, h3, h4⟩ := ext_B h
  obtain ⟨h5, ⟨h6, h7⟩, h8⟩ := chk_lim h
  refine ⟨_, _, _, _, Lib.hid (fun w => kep_calls (rof x.k x.r x.ax x.ay x.m x.o x.px x.py x.vx x.vy (max x.ax (-x.ax)) (max x.ay (-x.ay)) (exB x) (eyB x) _ _ _ _ (Lib.hid (rab (by omega) (by omega) rfl)) (Lib.hid (rab (by omega) (by omega) rfl)) ?_ ?_ ?_ ?_ ?_ ?_ w)), ⟨rfl, rfl, rfl, rfl⟩⟩
  · unfold exB at *; unfold wrap32; omega
  · unfold eyB at *; unfold wrap32; omega
  · unfold wrap32; omega
  · unfold wrap32; omega
  · unfold wrap32; omega
  · unfold wrap32; omega
theorem rvk {x : Bd} {a b c d xb yb zb tb : Int} (hx : EdB x a b c d) {z : Bool} (h : ovA x xb yb zb tb = z) : Hid (RVk a b c d xb yb zb tb z) := Lib.hid (fun w => kep_calls (rov a b c d xb yb zb tb z (by rw [hx.a, hx.b, hx.c, hx.d]; exact h) w))
theorem rvp {x y : Bd} {a b c d xb yb zb tb : Int} (hx : EdB x a b c d) (hy : EdB y xb yb zb tb) {z : Bool} (h : ovP x y = z) : Hid (RVk a b c d xb yb zb tb z) := rvk hx (by rw [hy.a, hy.b, hy.c, hy.d]; exact h)
abbrev RPf (L : List Bd) : Prop := ∀ v w, Lst w v L → Calls Tryd.prog 30 #[v] w fun e w' => ∃ v', e = .returned v' ∧ (Sq pv 2 w' v' (pairsL L) ∧ Rmy v') ∧ Kep w.heap.size w w'
set_option maxRecDepth 100000 in
set_option maxHeartbeats 8000000 in
theorem rpf (L : List Bd) (hm : L.length ≤ 40) (HV : Hid (∀ x ∈ L, chkB x = 0)) : RPf L := fun v w h => by
  obtain ⟨base, cap, rfl⟩ := h.shape
  have HC := Lib.hid (fun (k : Nat) (x : Bd) (hx : L[k]? = some x) => h.at_ hx)
  have HPM := Lib.hid (pairs_max hm)
  clear h
  generalize hl : L.length = len at *
  have HN := Lib.hid hl
  clear hl
  go_enter Tryd.func30, Tryd.ntmps30
  go_wp2_with fail
  go_loopw [3, 4, 5] (fun out i _ wr => ∃ k : Nat, k ≤ len ∧ i = .int .i64 k ∧ Hid (∃ P, P ++ pairsL (L.drop k) = pairsL L ∧ wr.ownsRow w.heap.size 44 2 out P.length (P.flatMap pv) ∧ Kep w.heap.size w wr)) (fun _ i _ _ => len - (RowKit.intOf i).toNat)
  case atStart => exact ⟨0, by omega, rfl, Lib.hid ⟨[], by simp, World.ownsRow_nil _ _ _ _, Kep.refl _ _⟩⟩
  case round =>
    obtain ⟨k, hk, rfl, HP⟩ := hrel
    by_cases hlt : k < len
    · have hb : L[k]? = some (L[k]'(by rw [HN.out]; exact hlt)) := List.getElem?_eq_getElem _
      generalize L[k]'(by rw [HN.out]; exact hlt) = x at hb
      obtain ⟨gl, off, rfl, qx⟩ := HC.out k x hb
      have HQX := Lib.hid qx
      obtain ⟨xa, ya, za, ta, RX, hex⟩ := rok (HV.out x (List.mem_of_getElem? hb))
      have HEX := Lib.hid hex
      have HX := Lib.hid hb
      clear hb qx hex
      go_wp2_with fail
      go_loopw [3, 5] (fun out j wr => ∃ l : Nat, l ≤ len ∧ j = .int .i64 l ∧ Hid (∃ P, P ++ (prO x (L.drop l) ++ pairsL (L.drop (k + 1))) = pairsL L ∧ wr.ownsRow w.heap.size 44 2 out P.length (P.flatMap pv) ∧ Kep w.heap.size w wr)) (fun _ j _ => len - (RowKit.intOf j).toNat)
      case atStart => exact ⟨k + 1, by omega, by go_num, Lib.hid (by
        obtain ⟨P, h1, h2, h3⟩ := HP.out
        exact ⟨P, by rw [← pairs_at HX.out]; exact h1, h2, h3⟩)⟩
      case round =>
        obtain ⟨l, hl, rfl, HR⟩ := hrel
        by_cases hlt2 : l < len
        · have hb : L[l]? = some (L[l]'(by rw [HN.out]; exact hlt2)) := List.getElem?_eq_getElem _
          generalize L[l]'(by rw [HN.out]; exact hlt2) = y at hb
          obtain ⟨_, _, e0, qy⟩ := HC.out l y hb
          injection e0 with e0
          injection e0 with e1 e2
          subst e1 e2
          have HQY := Lib.hid qy
          obtain ⟨xb, yb, zb, tb, RY, hey⟩ := rok (HV.out y (List.mem_of_getElem? hb))
          obtain ⟨z, hz⟩ : ∃ z, ovP x y = z := ⟨_, rfl⟩
          have RV := rvp HEX.out hey hz
          obtain ⟨P, hp, ho, gg⟩ := HR.out
          rw [prO_at hb, hz] at hp
          have HO := Lib.hid ho
          have HPE := Lib.hid hp
          have hpl : P.length ≤ 780 := by have := HPM.out; rw [← hp, List.length_append] at this; omega
          clear hb qy hey hz HR hp ho
          have s0 : wr.cell? ⟨gl, off + k * 10, none⟩ = some (.int .u32 x.k) := gg.all (HQX.out 0 (by decide))
          have s1 : wr.cell? ⟨gl, off + k * 10 + 1, none⟩ = some (.int .i32 x.r) := gg.all (HQX.out 1 (by decide))
          have s2 : wr.cell? ⟨gl, off + k * 10 + 2, none⟩ = some (.int .i32 x.ax) := gg.all (HQX.out 2 (by decide))
          have s3 : wr.cell? ⟨gl, off + k * 10 + 3, none⟩ = some (.int .i32 x.ay) := gg.all (HQX.out 3 (by decide))
          have s4 : wr.cell? ⟨gl, off + k * 10 + 4, none⟩ = some (.int .i32 x.m) := gg.all (HQX.out 4 (by decide))
          have s5 : wr.cell? ⟨gl, off + k * 10 + 5, none⟩ = some (.int .i32 x.o) := gg.all (HQX.out 5 (by decide))
          have s6 : wr.cell? ⟨gl, off + k * 10 + 6, none⟩ = some (.int .i32 x.px) := gg.all (HQX.out 6 (by decide))
          have s7 : wr.cell? ⟨gl, off + k * 10 + 7, none⟩ = some (.int .i32 x.py) := gg.all (HQX.out 7 (by decide))
          have s8 : wr.cell? ⟨gl, off + k * 10 + 8, none⟩ = some (.int .i32 x.vx) := gg.all (HQX.out 8 (by decide))
          have s9 : wr.cell? ⟨gl, off + k * 10 + 9, none⟩ = some (.int .i32 x.vy) := gg.all (HQX.out 9 (by decide))
          have t0 : wr.cell? ⟨gl, off + l * 10, none⟩ = some (.int .u32 y.k) := gg.all (HQY.out 0 (by decide))
          have t1 : wr.cell? ⟨gl, off + l * 10 + 1, none⟩ = some (.int .i32 y.r) := gg.all (HQY.out 1 (by decide))
          have t2 : wr.cell? ⟨gl, off + l * 10 + 2, none⟩ = some (.int .i32 y.ax) := gg.all (HQY.out 2 (by decide))
          have t3 : wr.cell? ⟨gl, off + l * 10 + 3, none⟩ = some (.int .i32 y.ay) := gg.all (HQY.out 3 (by decide))
          have t4 : wr.cell? ⟨gl, off + l * 10 + 4, none⟩ = some (.int .i32 y.m) := gg.all (HQY.out 4 (by decide))
          have t5 : wr.cell? ⟨gl, off + l * 10 + 5, none⟩ = some (.int .i32 y.o) := gg.all (HQY.out 5 (by decide))
          have t6 : wr.cell? ⟨gl, off + l * 10 + 6, none⟩ = some (.int .i32 y.px) := gg.all (HQY.out 6 (by decide))
          have t7 : wr.cell? ⟨gl, off + l * 10 + 7, none⟩ = some (.int .i32 y.py) := gg.all (HQY.out 7 (by decide))
          have t8 : wr.cell? ⟨gl, off + l * 10 + 8, none⟩ = some (.int .i32 y.vx) := gg.all (HQY.out 8 (by decide))
          have t9 : wr.cell? ⟨gl, off + l * 10 + 9, none⟩ = some (.int .i32 y.vy) := gg.all (HQY.out 9 (by decide))
          go_wp2_with fail
          refine wp_region_noPanic ?_
          refine wp_region_held_drew (S := (fun w' => w'.cell? ⟨gl, off + k * 10, none⟩ = some (.int .u32 x.k) ∧ w'.cell? ⟨gl, off + k * 10 + 1, none⟩ = some (.int .i32 x.r) ∧ w'.cell? ⟨gl, off + k * 10 + 2, none⟩ = some (.int .i32 x.ax) ∧ w'.cell? ⟨gl, off + k * 10 + 3, none⟩ = some (.int .i32 x.ay) ∧ w'.cell? ⟨gl, off + k * 10 + 4, none⟩ = some (.int .i32 x.m) ∧ w'.cell? ⟨gl, off + k * 10 + 5, none⟩ = some (.int .i32 x.o) ∧ w'.cell? ⟨gl, off + k * 10 + 6, none⟩ = some (.int .i32 x.px) ∧ w'.cell? ⟨gl, off + k * 10 + 7, none⟩ = some (.int .i32 x.py) ∧ w'.cell? ⟨gl, off + k * 10 + 8, none⟩ = some (.int .i32 x.vx) ∧ w'.cell? ⟨gl, off + k * 10 + 9, none⟩ = some (.int .i32 x.vy) ∧ w'.cell? ⟨gl, off + l * 10, none⟩ = some (.int .u32 y.k) ∧ w'.cell? ⟨gl, off + l * 10 + 1, none⟩ = some (.int .i32 y.r) ∧ w'.cell? ⟨gl, off + l * 10 + 2, none⟩ = some (.int .i32 y.ax) ∧ w'.cell? ⟨gl, off + l * 10 + 3, none⟩ = some (.int .i32 y.ay) ∧ w'.cell? ⟨gl, off + l * 10 + 4, none⟩ = some (.int .i32 y.m) ∧ w'.cell? ⟨gl, off + l * 10 + 5, none⟩ = some (.int .i32 y.o) ∧ w'.cell? ⟨gl, off + l * 10 + 6, none⟩ = some (.int .i32 y.px) ∧ w'.cell? ⟨gl, off + l * 10 + 7, none⟩ = some (.int .i32 y.py) ∧ w'.cell? ⟨gl, off + l * 10 + 8, none⟩ = some (.int .i32 y.vx) ∧ w'.cell? ⟨gl, off + l * 10 + 9, none⟩ = some (.int .i32 y.vy) ∧ Kep w.heap.size w w')) (by kernel_rfl) (⟨by rw [World.cell?_drew]; exact s0, by rw [World.cell?_drew]; exact s1, by rw [World.cell?_drew]; exact s2, by rw [World.cell?_drew]; exact s3, by rw [World.cell?_drew]; exact s4, by rw [World.cell?_drew]; exact s5, by rw [World.cell?_drew]; exact s6, by rw [World.cell?_drew]; exact s7, by rw [World.cell?_drew]; exact s8, by rw [World.cell?_drew]; exact s9, by rw [World.cell?_drew]; exact t0, by rw [World.cell?_drew]; exact t1, by rw [World.cell?_drew]; exact t2, by rw [World.cell?_drew]; exact t3, by rw [World.cell?_drew]; exact t4, by rw [World.cell?_drew]; exact t5, by rw [World.cell?_drew]; exact t6, by rw [World.cell?_drew]; exact t7, by rw [World.cell?_drew]; exact t8, by rw [World.cell?_drew]; exact t9, kep_drew gg⟩) (fun hH => ?_)
          refine wpAnyH_take (i := 0) (oi := { dst := some 20, op := Op.move (Operand.tmp 0), type := _, pos := _, after := _, guard := none }) (v := ?_) rfl (by kernel_rfl) (by kernel_rfl) (by kernel_rfl) (fun _ _ _ h => h) (Or.inl ⟨by rfl, ?_⟩) hH ?_
          rotate_left
          · (intro w hSw; (try dsimp only at hSw); go_simp; (try with_reducible rfl))
          try simp only [Act.put, List.setIfInBounds_toArray, List.set_cons_zero, List.set_cons_succ]
          refine wpAnyH_take (i := 1) (oi := { dst := some 21, op := Op.move (Operand.tmp 4), type := _, pos := _, after := _, guard := none }) (v := ?_) rfl (by kernel_rfl) (by kernel_rfl) (by kernel_rfl) (fun _ _ _ h => h) (Or.inl ⟨by rfl, ?_⟩) hH ?_
          rotate_left
          · (intro w hSw; (try dsimp only at hSw); go_simp; (try with_reducible rfl))
          try simp only [Act.put, List.setIfInBounds_toArray, List.set_cons_zero, List.set_cons_succ]
          refine wpAnyH_take (i := 2) (oi := { dst := some 22, op := Op.indexAddr 55 (Operand.tmp 20) (Operand.tmp 21), type := _, pos := _, after := _, guard := none }) (v := ?_) rfl (by kernel_rfl) (by kernel_rfl) (by kernel_rfl) (fun _ _ _ h => h) (Or.inl ⟨by rfl, ?_⟩) hH ?_
          rotate_left
          · (intro w hSw; (try dsimp only at hSw); go_simp; (try with_reducible rfl))
          try simp only [Act.put, List.setIfInBounds_toArray, List.set_cons_zero, List.set_cons_succ]
          refine wpAnyH_take (i := 3) (oi := { dst := some 23, op := Op.load 69 (Operand.tmp 22), type := _, pos := _, after := _, guard := none }) (v := ?_) rfl (by kernel_rfl) (by kernel_rfl) (by kernel_rfl) (fun _ _ _ h => h) (Or.inl ⟨by rfl, ?_⟩) hH ?_
          rotate_left
          · (intro w hSw; (try dsimp only at hSw); go_simp; (try with_reducible rfl))
          try simp only [Act.put, List.setIfInBounds_toArray, List.set_cons_zero, List.set_cons_succ]
          refine wpAnyH_take (i := 5) (oi := { dst := some 25, op := Op.move (Operand.tmp 0), type := _, pos := _, after := _, guard := none }) (v := ?_) rfl (by kernel_rfl) (by kernel_rfl) (by kernel_rfl) (fun _ _ _ h => h) (Or.inl ⟨by rfl, ?_⟩) hH ?_
          rotate_left
          · (intro w hSw; (try dsimp only at hSw); go_simp; (try with_reducible rfl))
          try simp only [Act.put, List.setIfInBounds_toArray, List.set_cons_zero, List.set_cons_succ]
          refine wpAnyH_take (i := 6) (oi := { dst := some 26, op := Op.move (Operand.tmp 5), type := _, pos := _, after := _, guard := none }) (v := ?_) rfl (by kernel_rfl) (by kernel_rfl) (by kernel_rfl) (fun _ _ _ h => h) (Or.inl ⟨by rfl, ?_⟩) hH ?_
          rotate_left
          · (intro w hSw; (try dsimp only at hSw); go_simp; (try with_reducible rfl))
          try simp only [Act.put, List.setIfInBounds_toArray, List.set_cons_zero, List.set_cons_succ]
          refine wpAnyH_take (i := 7) (oi := { dst := some 27, op := Op.indexAddr 55 (Operand.tmp 25) (Operand.tmp 26), type := _, pos := _, after := _, guard := none }) (v := ?_) rfl (by kernel_rfl) (by kernel_rfl) (by kernel_rfl) (fun _ _ _ h => h) (Or.inl ⟨by rfl, ?_⟩) hH ?_
          rotate_left
          · (intro w hSw; (try dsimp only at hSw); go_simp; (try with_reducible rfl))
          try simp only [Act.put, List.setIfInBounds_toArray, List.set_cons_zero, List.set_cons_succ]
          refine wpAnyH_take (i := 8) (oi := { dst := some 28, op := Op.load 69 (Operand.tmp 27), type := _, pos := _, after := _, guard := none }) (v := ?_) rfl (by kernel_rfl) (by kernel_rfl) (by kernel_rfl) (fun _ _ _ h => h) (Or.inl ⟨by rfl, ?_⟩) hH ?_
          rotate_left
          · (intro w hSw; (try dsimp only at hSw); go_simp; (try with_reducible rfl))
          try simp only [Act.put, List.setIfInBounds_toArray, List.set_cons_zero, List.set_cons_succ]
          refine wpAnyH_ready (rs := [4]) (by kernel_rfl) (by simp) ?_
          refine AllReadyH.cons (o := { dst := some 24, op := Op.call { callee := Callee.value (Operand.func 36), args := #[Operand.tmp 23], argTypes := #[69] }, type := _, pos := _, after := _, guard := none }) rfl (fun K hK => ?_) AllReadyH.nil
          go_simp
          (with_reducible refine (RX.out _).mono ?_); rintro e v8_4 ⟨rfl, g⟩
          replace HO := Lib.hid (own_kep (World.ownsRow.drew HO.out) g (Nat.le_refl _))
          refine hK.out _ _ (by (try dsimp only); (go_split_ands; exact ⟨Kep.all g (by assumption), Kep.all g (by assumption), Kep.all g (by assumption), Kep.all g (by assumption), Kep.all g (by assumption), Kep.all g (by assumption), Kep.all g (by assumption), Kep.all g (by assumption), Kep.all g (by assumption), Kep.all g (by assumption), Kep.all g (by assumption), Kep.all g (by assumption), Kep.all g (by assumption), Kep.all g (by assumption), Kep.all g (by assumption), Kep.all g (by assumption), Kep.all g (by assumption), Kep.all g (by assumption), Kep.all g (by assumption), Kep.all g (by assumption), kep_next (by assumption) g⟩)) (fun hH2 => ?_)
          clear hK K hH; have hH := hH2; clear hH2
          try simp only [Act.put, List.setIfInBounds_toArray, List.set_cons_zero, List.set_cons_succ]
          refine wpAnyH_ready (rs := [9]) (by kernel_rfl) (by simp) ?_
          refine AllReadyH.cons (o := { dst := some 29, op := Op.call { callee := Callee.value (Operand.func 36), args := #[Operand.tmp 28], argTypes := #[69] }, type := _, pos := _, after := _, guard := none }) rfl (fun K hK => ?_) AllReadyH.nil
          go_simp
          (with_reducible refine (RY.out _).mono ?_); rintro e v8_9 ⟨rfl, g⟩
          replace HO := Lib.hid (own_kep HO.out g (Nat.le_refl _))
          refine hK.out _ _ (by (try dsimp only); (go_split_ands; exact ⟨Kep.all g (by assumption), Kep.all g (by assumption), Kep.all g (by assumption), Kep.all g (by assumption), Kep.all g (by assumption), Kep.all g (by assumption), Kep.all g (by assumption), Kep.all g (by assumption), Kep.all g (by assumption), Kep.all g (by assumption), Kep.all g (by assumption), Kep.all g (by assumption), Kep.all g (by assumption), Kep.all g (by assumption), Kep.all g (by assumption), Kep.all g (by assumption), Kep.all g (by assumption), Kep.all g (by assumption), Kep.all g (by assumption), Kep.all g (by assumption), kep_next (by assumption) g⟩)) (fun hH2 => ?_)
          clear hK K hH; have hH := hH2; clear hH2
          try simp only [Act.put, List.setIfInBounds_toArray, List.set_cons_zero, List.set_cons_succ]
          refine wpAnyH_ready (rs := [10]) (by kernel_rfl) (by simp) ?_
          refine AllReadyH.cons (o := { dst := some 30, op := Op.call { callee := Callee.value (Operand.func 24), args := #[Operand.tmp 24, Operand.tmp 29], argTypes := #[47, 47] }, type := _, pos := _, after := _, guard := none }) rfl (fun K hK => ?_) AllReadyH.nil
          go_simp
          (with_reducible refine (RV.out _).mono ?_); rintro e v8_10 ⟨rfl, g⟩
          replace HO := Lib.hid (own_kep HO.out g (Nat.le_refl _))
          refine hK.out _ _ (by (try dsimp only); (go_split_ands; exact ⟨Kep.all g (by assumption), Kep.all g (by assumption), Kep.all g (by assumption), Kep.all g (by assumption), Kep.all g (by assumption), Kep.all g (by assumption), Kep.all g (by assumption), Kep.all g (by assumption), Kep.all g (by assumption), Kep.all g (by assumption), Kep.all g (by assumption), Kep.all g (by assumption), Kep.all g (by assumption), Kep.all g (by assumption), Kep.all g (by assumption), Kep.all g (by assumption), Kep.all g (by assumption), Kep.all g (by assumption), Kep.all g (by assumption), Kep.all g (by assumption), kep_next (by assumption) g⟩)) (fun hH2 => ?_)
          clear hK K hH; have hH := hH2; clear hH2
          try simp only [Act.put, List.setIfInBounds_toArray, List.set_cons_zero, List.set_cons_succ]
          refine wpAnyH_done (by kernel_rfl) ?_ _
          refine NoPanic.normal ?_
          clear s0 s1 s2 s3 s4 s5 s6 s7 s8 s9 t0 t1 t2 t3 t4 t5 t6 t7 t8 t9 gg
          obtain ⟨s0, s1, s2, s3, s4, s5, s6, s7, s8, s9, t0, t1, t2, t3, t4, t5, t6, t7, t8, t9, gg⟩ := hH
          cases z
          · go_wp2_with fail
            go_roundw
            case rel => exact ⟨l + 1, by omega, by go_num, Lib.hid ⟨P, by have := HPE.out; simpa using this, HO.out, gg⟩⟩
            case measure => simp [RowKit.intOf]; omega
          · have gg0 := gg.size
            have hgl : gl < w.heap.size := World.block_lt_of_cell? _ _ (HQX.out 0 (by decide))
            go_wp2_with fail
            refine wp_region_noPanic ?_
            refine wp_region_held_drew (S := (fun w' => w'.cell? ⟨gl, off + k * 10, none⟩ = some (.int .u32 x.k) ∧ w'.cell? ⟨gl, off + l * 10, none⟩ = some (.int .u32 y.k) ∧ Kep w.heap.size w w')) (by kernel_rfl) (⟨by rw [World.cell?_drew]; exact s0, by rw [World.cell?_drew]; exact t0, kep_drew gg⟩) (fun hH => ?_)
            refine wpAnyH_take (i := 0) (oi := { dst := some 31, op := Op.move (Operand.tmp 3), type := _, pos := _, after := _, guard := none }) (v := ?_) rfl (by kernel_rfl) (by kernel_rfl) (by kernel_rfl) (fun _ _ _ h => h) (Or.inl ⟨by rfl, ?_⟩) hH ?_
            rotate_left
            · (intro w hSw; (try dsimp only at hSw); go_simp; (try with_reducible rfl))
            try simp only [Act.put, List.setIfInBounds_toArray, List.set_cons_zero, List.set_cons_succ]
            refine wpAnyH_take (i := 1) (oi := { dst := some 32, op := Op.move (Operand.tmp 0), type := _, pos := _, after := _, guard := none }) (v := ?_) rfl (by kernel_rfl) (by kernel_rfl) (by kernel_rfl) (fun _ _ _ h => h) (Or.inl ⟨by rfl, ?_⟩) hH ?_
            rotate_left
            · (intro w hSw; (try dsimp only at hSw); go_simp; (try with_reducible rfl))
            try simp only [Act.put, List.setIfInBounds_toArray, List.set_cons_zero, List.set_cons_succ]
            refine wpAnyH_take (i := 2) (oi := { dst := some 33, op := Op.move (Operand.tmp 4), type := _, pos := _, after := _, guard := none }) (v := ?_) rfl (by kernel_rfl) (by kernel_rfl) (by kernel_rfl) (fun _ _ _ h => h) (Or.inl ⟨by rfl, ?_⟩) hH ?_
            rotate_left
            · (intro w hSw; (try dsimp only at hSw); go_simp; (try with_reducible rfl))
            try simp only [Act.put, List.setIfInBounds_toArray, List.set_cons_zero, List.set_cons_succ]
            refine wpAnyH_take (i := 3) (oi := { dst := some 34, op := Op.indexAddr 55 (Operand.tmp 32) (Operand.tmp 33), type := _, pos := _, after := _, guard := none }) (v := ?_) rfl (by kernel_rfl) (by kernel_rfl) (by kernel_rfl) (fun _ _ _ h => h) (Or.inl ⟨by rfl, ?_⟩) hH ?_
            rotate_left
            · (intro w hSw; (try dsimp only at hSw); go_simp; (try with_reducible rfl))
            try simp only [Act.put, List.setIfInBounds_toArray, List.set_cons_zero, List.set_cons_succ]
            refine wpAnyH_take (i := 4) (oi := { dst := some 35, op := Op.fieldAddr 69 (Operand.tmp 34) 0, type := _, pos := _, after := _, guard := none }) (v := ?_) rfl (by kernel_rfl) (by kernel_rfl) (by kernel_rfl) (fun _ _ _ h => h) (Or.inl ⟨by rfl, ?_⟩) hH ?_
            rotate_left
            · (intro w hSw; (try dsimp only at hSw); go_simp; (try with_reducible rfl))
            try simp only [Act.put, List.setIfInBounds_toArray, List.set_cons_zero, List.set_cons_succ]
            refine wpAnyH_take (i := 5) (oi := { dst := some 36, op := Op.load 42 (Operand.tmp 35), type := _, pos := _, after := _, guard := none }) (v := ?_) rfl (by kernel_rfl) (by kernel_rfl) (by kernel_rfl) (fun _ _ _ h => h) (Or.inl ⟨by rfl, ?_⟩) hH ?_
            rotate_left
            · (intro w hSw; (try dsimp only at hSw); go_simp; (try with_reducible rfl))
            try simp only [Act.put, List.setIfInBounds_toArray, List.set_cons_zero, List.set_cons_succ]
            refine wpAnyH_take (i := 6) (oi := { dst := some 37, op := Op.move (Operand.tmp 0), type := _, pos := _, after := _, guard := none }) (v := ?_) rfl (by kernel_rfl) (by kernel_rfl) (by kernel_rfl) (fun _ _ _ h => h) (Or.inl ⟨by rfl, ?_⟩) hH ?_
            rotate_left
            · (intro w hSw; (try dsimp only at hSw); go_simp; (try with_reducible rfl))
            try simp only [Act.put, List.setIfInBounds_toArray, List.set_cons_zero, List.set_cons_succ]
            refine wpAnyH_take (i := 7) (oi := { dst := some 38, op := Op.move (Operand.tmp 5), type := _, pos := _, after := _, guard := none }) (v := ?_) rfl (by kernel_rfl) (by kernel_rfl) (by kernel_rfl) (fun _ _ _ h => h) (Or.inl ⟨by rfl, ?_⟩) hH ?_
            rotate_left
            · (intro w hSw; (try dsimp only at hSw); go_simp; (try with_reducible rfl))
            try simp only [Act.put, List.setIfInBounds_toArray, List.set_cons_zero, List.set_cons_succ]
            refine wpAnyH_take (i := 8) (oi := { dst := some 39, op := Op.indexAddr 55 (Operand.tmp 37) (Operand.tmp 38), type := _, pos := _, after := _, guard := none }) (v := ?_) rfl (by kernel_rfl) (by kernel_rfl) (by kernel_rfl) (fun _ _ _ h => h) (Or.inl ⟨by rfl, ?_⟩) hH ?_
            rotate_left
            · (intro w hSw; (try dsimp only at hSw); go_simp; (try with_reducible rfl))
            try simp only [Act.put, List.setIfInBounds_toArray, List.set_cons_zero, List.set_cons_succ]
            refine wpAnyH_take (i := 9) (oi := { dst := some 40, op := Op.fieldAddr 69 (Operand.tmp 39) 0, type := _, pos := _, after := _, guard := none }) (v := ?_) rfl (by kernel_rfl) (by kernel_rfl) (by kernel_rfl) (fun _ _ _ h => h) (Or.inl ⟨by rfl, ?_⟩) hH ?_
            rotate_left
            · (intro w hSw; (try dsimp only at hSw); go_simp; (try with_reducible rfl))
            try simp only [Act.put, List.setIfInBounds_toArray, List.set_cons_zero, List.set_cons_succ]
            refine wpAnyH_take (i := 10) (oi := { dst := some 41, op := Op.load 42 (Operand.tmp 40), type := _, pos := _, after := _, guard := none }) (v := ?_) rfl (by kernel_rfl) (by kernel_rfl) (by kernel_rfl) (fun _ _ _ h => h) (Or.inl ⟨by rfl, ?_⟩) hH ?_
            rotate_left
            · (intro w hSw; (try dsimp only at hSw); go_simp; (try with_reducible rfl))
            try simp only [Act.put, List.setIfInBounds_toArray, List.set_cons_zero, List.set_cons_succ]
            refine wpAnyH_take (i := 11) (oi := { dst := some 42, op := Op.build 44 #[(0, Operand.tmp 36), (1, Operand.tmp 41)], type := _, pos := _, after := _, guard := none }) (v := ?_) rfl (by kernel_rfl) (by kernel_rfl) (by kernel_rfl) (fun _ _ _ h => h) (Or.inl ⟨by rfl, ?_⟩) hH ?_
            rotate_left
            · (intro w hSw; (try dsimp only at hSw); go_simp; (try with_reducible rfl))
            try simp only [Act.put, List.setIfInBounds_toArray, List.set_cons_zero, List.set_cons_succ]
            refine wpAnyH_ready (rs := [12]) (by kernel_rfl) (by simp) ?_
            refine AllReadyH.cons (o := { dst := some 43, op := Op.buildSlice 35 1 #[(0, Operand.tmp 42)], type := _, pos := _, after := _, guard := none }) rfl (fun K hK => ?_) AllReadyH.nil
            go_simp
            refine hK.out _ _ (by (try dsimp only); (go_split_ands; exact ⟨Kep.all (kep_more (Kep.refl _ _) _) (by assumption), Kep.all (kep_more (Kep.refl _ _) _) (by assumption), kep_more (by assumption) _⟩)) (fun hH2 => ?_)
            clear hK K hH; have hH := hH2; clear hH2
            try simp only [Act.put, List.setIfInBounds_toArray, List.set_cons_zero, List.set_cons_succ]
            refine wpAnyH_ready (rs := [13]) (by kernel_rfl) (by simp) ?_
            refine AllReadyH.cons (o := { dst := some 44, op := Op.call { callee := Callee.builtin Builtin.append, args := #[Operand.tmp 31, Operand.tmp 43], argTypes := #[35, 35] }, type := _, pos := _, after := _, guard := none }) rfl (fun K hK => ?_) AllReadyH.nil
            refine step_app pv 2 pv_len pv_one (by rfl) _ _ 35 (by rfl) 44 _ 8 Tryd.underlying35 info_pair rfl (by decide) w.heap.size _ _ P (x.k, y.k) (by rfl) (World.ownsRow.drew HO.out) _ (by first | rfl | simp) (by rfl) _ (by rfl) (by unfold maxLen; omega) (by omega) gg0 ?_
            intro v3 w3 o3 k3
            refine hK.out _ _ (by (try dsimp only); (go_split_ands; exact ⟨Kep.holds k3 hgl (by assumption), Kep.holds k3 hgl (by assumption), Kep.trans (by assumption) k3⟩)) (fun hH2 => ?_)
            clear hK K hH; have hH := hH2; clear hH2
            try simp only [Act.put, List.setIfInBounds_toArray, List.set_cons_zero, List.set_cons_succ]
            refine wpAnyH_take (i := 14) (oi := { dst := some 3, op := Op.assign (Operand.tmp 44), type := _, pos := _, after := _, guard := none }) (v := ?_) rfl (by kernel_rfl) (by kernel_rfl) (by kernel_rfl) (fun _ _ _ h => h) (Or.inl ⟨by rfl, ?_⟩) hH ?_
            rotate_left
            · (intro w hSw; (try dsimp only at hSw); go_simp; (try with_reducible rfl))
            try simp only [Act.put, List.setIfInBounds_toArray, List.set_cons_zero, List.set_cons_succ]
            refine wpAnyH_done (by kernel_rfl) ?_ _
            refine NoPanic.normal ?_
            clear s0 t0 gg
            obtain ⟨s0, t0, gg⟩ := hH
            go_wp2_with fail
            have HM : Hid (∃ P, P ++ (prO x (L.drop (l + 1)) ++ pairsL (L.drop (k + 1))) = pairsL L ∧ w3.ownsRow w.heap.size 44 2 v3 P.length (P.flatMap pv) ∧ Kep w.heap.size w w3) := Lib.hid ⟨P ++ [(x.k, y.k)], by have := HPE.out; simpa using this, o3, gg⟩
            clear o3
            go_roundw
            case rel => exact ⟨l + 1, by omega, by go_num, HM⟩
            case measure => simp [RowKit.intOf]; omega
        · obtain rfl : l = len := by omega
          go_wp2_with fail
          go_roundw
          case rel => exact ⟨k + 1, by omega, by go_num, Lib.hid (by
            obtain ⟨P, h1, h2, h3⟩ := HR.out
            rw [List.drop_of_length_le (by rw [HN.out]; omega)] at h1
            exact ⟨P, h1, h2, h3⟩)⟩
          case measure => simp [RowKit.intOf]; omega
    · obtain rfl : k = len := by omega
      go_wp2_with fail
      go_ret
      obtain ⟨P, h1, h2, h3⟩ := HP.out
      rw [List.drop_of_length_le (by rw [HN.out]; omega)] at h1
      rw [show P = pairsL L by rw [← h1]; simp [pairsL]] at h2
      exact ⟨_, rfl, ⟨own_sq pv_len h2, own_rmy h2⟩, h3⟩
end Go.Proofs.YtnmnbogjnjbopaaDoor
end

section
/-
  Package pairs: the reference's Within, Lonely, View.
-/
namespace Go.Proofs.YtnmnbogjnjbopaaDoor
open Go.RowKit Go.Lib

theorem with_at {L : List Bd} {k : Nat} {x : Bd} {a b c d : Int} (h : L[k]? = some x) : withL (L.drop k) a b c d = if ovA x a b c d = true then x.k :: withL (L.drop (k + 1)) a b c d else withL (L.drop (k + 1)) a b c d := by
  rw [drop_at h]
  unfold withL
  by_cases q : ovA x a b c d = true
  · rw [if_pos q, List.filter_cons_of_pos (p := fun x => ovA x a b c d) q, List.map_cons]
  · rw [if_neg q, List.filter_cons_of_neg (p := fun x => ovA x a b c d) q]
theorem with_len (L : List Bd) (a b c d : Int) : (withL L a b c d).length ≤ L.length := by
  unfold withL
  rw [List.length_map]
  exact List.length_filter_le _ _
abbrev RPw (L : List Bd) (a b c d : Int) : Prop := ∀ v w, Lst w v L → Calls Tryd.prog 32 #[v, .agg #[.int .i32 a, .int .i32 b, .int .i32 c, .int .i32 d]] w fun e w' => ∃ v', e = .returned v' ∧ Sq kv 1 w' v' (withL L a b c d) ∧ Kep w.heap.size w w'
set_option maxRecDepth 100000 in
set_option maxHeartbeats 8000000 in
theorem rpw (L : List Bd) (hm : L.length ≤ 1000000) (HV : Hid (∀ x ∈ L, chkB x = 0)) (ba bb bc bd : Int) : RPw L ba bb bc bd := fun v w h => by
  obtain ⟨base, cap, rfl⟩ := h.shape
  have HC := Lib.hid (fun (k : Nat) (x : Bd) (hx : L[k]? = some x) => h.at_ hx)
  have HPM := Lib.hid (with_len L ba bb bc bd)
  clear h
  generalize hl : L.length = len at *
  have HN := Lib.hid hl
  clear hl
  go_enter Tryd.func32, Tryd.ntmps32
  go_wp2_with fail
  obtain ⟨W1, hW1⟩ : ∃ W1, W1 = w.alloc (.cells #[.int .i32 ba, .int .i32 bb, .int .i32 bc, .int .i32 bd] 47) := ⟨_, rfl⟩
  rw [← hW1]
  have HB0 : Hid (W1.cell? ⟨w.heap.size, 0, none⟩ = some (.int .i32 ba)) := Lib.hid (by rw [hW1, World.cell?_alloc_at _ _ _ _ (by simp)]; rfl)
  have HB1 : Hid (W1.cell? ⟨w.heap.size, 1, none⟩ = some (.int .i32 bb)) := Lib.hid (by rw [hW1, World.cell?_alloc_at _ _ _ _ (by simp)]; rfl)
  have HB2 : Hid (W1.cell? ⟨w.heap.size, 2, none⟩ = some (.int .i32 bc)) := Lib.hid (by rw [hW1, World.cell?_alloc_at _ _ _ _ (by simp)]; rfl)
  have HB3 : Hid (W1.cell? ⟨w.heap.size, 3, none⟩ = some (.int .i32 bd)) := Lib.hid (by rw [hW1, World.cell?_alloc_at _ _ _ _ (by simp)]; rfl)
  have K0 := Lib.hid (show Kep w.heap.size w W1 by rw [hW1]; exact kep_more (Kep.refl _ _) _)
  clear hW1
  go_loopw [5, 6] (fun out i wr => ∃ k : Nat, k ≤ len ∧ i = .int .i64 k ∧ Hid (∃ P, P ++ withL (L.drop k) ba bb bc bd = withL L ba bb bc bd ∧ wr.ownsRow W1.heap.size 42 1 out P.length (P.flatMap kv) ∧ Kep W1.heap.size W1 wr)) (fun _ i _ => len - (RowKit.intOf i).toNat)
  case atStart => exact ⟨0, by omega, rfl, Lib.hid ⟨[], by simp, World.ownsRow_nil _ _ _ _, Kep.refl _ _⟩⟩
  case round =>
    obtain ⟨k, hk, rfl, HP⟩ := hrel
    by_cases hlt : k < len
    · have hb : L[k]? = some (L[k]'(by rw [HN.out]; exact hlt)) := List.getElem?_eq_getElem _
      generalize L[k]'(by rw [HN.out]; exact hlt) = x at hb
      obtain ⟨gl, off, rfl, qx⟩ := HC.out k x hb
      have HQX := Lib.hid qx
      obtain ⟨xa, ya, za, ta, RX, hex⟩ := rok (HV.out x (List.mem_of_getElem? hb))
      obtain ⟨z, hz⟩ : ∃ z, ovA x ba bb bc bd = z := ⟨_, rfl⟩
      have RV := rvk hex hz
      obtain ⟨P, hp, ho, gg⟩ := HP.out
      rw [with_at hb, hz] at hp
      have HO := Lib.hid ho
      have HPE := Lib.hid hp
      have hpl : P.length ≤ len := by have := HPM.out; rw [← hp, List.length_append] at this; omega
      clear hb qx hex hz HP hp ho
      have b0 := gg.all HB0.out
      have b1 := gg.all HB1.out
      have b2 := gg.all HB2.out
      have b3 := gg.all HB3.out
      have s0 : wr.cell? ⟨gl, off + k * 10, none⟩ = some (.int .u32 x.k) := gg.all (K0.out.all (HQX.out 0 (by decide)))
      have s1 : wr.cell? ⟨gl, off + k * 10 + 1, none⟩ = some (.int .i32 x.r) := gg.all (K0.out.all (HQX.out 1 (by decide)))
      have s2 : wr.cell? ⟨gl, off + k * 10 + 2, none⟩ = some (.int .i32 x.ax) := gg.all (K0.out.all (HQX.out 2 (by decide)))
      have s3 : wr.cell? ⟨gl, off + k * 10 + 3, none⟩ = some (.int .i32 x.ay) := gg.all (K0.out.all (HQX.out 3 (by decide)))
      have s4 : wr.cell? ⟨gl, off + k * 10 + 4, none⟩ = some (.int .i32 x.m) := gg.all (K0.out.all (HQX.out 4 (by decide)))
      have s5 : wr.cell? ⟨gl, off + k * 10 + 5, none⟩ = some (.int .i32 x.o) := gg.all (K0.out.all (HQX.out 5 (by decide)))
      have s6 : wr.cell? ⟨gl, off + k * 10 + 6, none⟩ = some (.int .i32 x.px) := gg.all (K0.out.all (HQX.out 6 (by decide)))
      have s7 : wr.cell? ⟨gl, off + k * 10 + 7, none⟩ = some (.int .i32 x.py) := gg.all (K0.out.all (HQX.out 7 (by decide)))
      have s8 : wr.cell? ⟨gl, off + k * 10 + 8, none⟩ = some (.int .i32 x.vx) := gg.all (K0.out.all (HQX.out 8 (by decide)))
      have s9 : wr.cell? ⟨gl, off + k * 10 + 9, none⟩ = some (.int .i32 x.vy) := gg.all (K0.out.all (HQX.out 9 (by decide)))
      go_wp2_with fail
      refine wp_region_noPanic ?_
      refine wp_region_held_drew (S := (fun w' => w'.cell? ⟨gl, off + k * 10, none⟩ = some (.int .u32 x.k) ∧ w'.cell? ⟨gl, off + k * 10 + 1, none⟩ = some (.int .i32 x.r) ∧ w'.cell? ⟨gl, off + k * 10 + 2, none⟩ = some (.int .i32 x.ax) ∧ w'.cell? ⟨gl, off + k * 10 + 3, none⟩ = some (.int .i32 x.ay) ∧ w'.cell? ⟨gl, off + k * 10 + 4, none⟩ = some (.int .i32 x.m) ∧ w'.cell? ⟨gl, off + k * 10 + 5, none⟩ = some (.int .i32 x.o) ∧ w'.cell? ⟨gl, off + k * 10 + 6, none⟩ = some (.int .i32 x.px) ∧ w'.cell? ⟨gl, off + k * 10 + 7, none⟩ = some (.int .i32 x.py) ∧ w'.cell? ⟨gl, off + k * 10 + 8, none⟩ = some (.int .i32 x.vx) ∧ w'.cell? ⟨gl, off + k * 10 + 9, none⟩ = some (.int .i32 x.vy) ∧ w'.cell? ⟨w.heap.size, 0, none⟩ = some (.int .i32 ba) ∧ w'.cell? ⟨w.heap.size, 1, none⟩ = some (.int .i32 bb) ∧ w'.cell? ⟨w.heap.size, 2, none⟩ = some (.int .i32 bc) ∧ w'.cell? ⟨w.heap.size, 3, none⟩ = some (.int .i32 bd) ∧ Kep W1.heap.size W1 w')) (by kernel_rfl) (⟨by rw [World.cell?_drew]; exact s0, by rw [World.cell?_drew]; exact s1, by rw [World.cell?_drew]; exact s2, by rw [World.cell?_drew]; exact s3, by rw [World.cell?_drew]; exact s4, by rw [World.cell?_drew]; exact s5, by rw [World.cell?_drew]; exact s6, by rw [World.cell?_drew]; exact s7, by rw [World.cell?_drew]; exact s8, by rw [World.cell?_drew]; exact s9, by rw [World.cell?_drew]; exact b0, by rw [World.cell?_drew]; exact b1, by rw [World.cell?_drew]; exact b2, by rw [World.cell?_drew]; exact b3, kep_drew gg⟩) (fun hH => ?_)
      refine wpAnyH_take (i := 0) (oi := { dst := some 13, op := Op.move (Operand.tmp 0), type := _, pos := _, after := _, guard := none }) (v := ?_) rfl (by kernel_rfl) (by kernel_rfl) (by kernel_rfl) (fun _ _ _ h => h) (Or.inl ⟨by rfl, ?_⟩) hH ?_
      rotate_left
      · (intro w hSw; (try dsimp only at hSw); go_simp; (try with_reducible rfl))
      try simp only [Act.put, List.setIfInBounds_toArray, List.set_cons_zero, List.set_cons_succ]
      refine wpAnyH_take (i := 1) (oi := { dst := some 14, op := Op.move (Operand.tmp 6), type := _, pos := _, after := _, guard := none }) (v := ?_) rfl (by kernel_rfl) (by kernel_rfl) (by kernel_rfl) (fun _ _ _ h => h) (Or.inl ⟨by rfl, ?_⟩) hH ?_
      rotate_left
      · (intro w hSw; (try dsimp only at hSw); go_simp; (try with_reducible rfl))
      try simp only [Act.put, List.setIfInBounds_toArray, List.set_cons_zero, List.set_cons_succ]
      refine wpAnyH_take (i := 2) (oi := { dst := some 15, op := Op.indexAddr 55 (Operand.tmp 13) (Operand.tmp 14), type := _, pos := _, after := _, guard := none }) (v := ?_) rfl (by kernel_rfl) (by kernel_rfl) (by kernel_rfl) (fun _ _ _ h => h) (Or.inl ⟨by rfl, ?_⟩) hH ?_
      rotate_left
      · (intro w hSw; (try dsimp only at hSw); go_simp; (try with_reducible rfl))
      try simp only [Act.put, List.setIfInBounds_toArray, List.set_cons_zero, List.set_cons_succ]
      refine wpAnyH_take (i := 3) (oi := { dst := some 16, op := Op.load 69 (Operand.tmp 15), type := _, pos := _, after := _, guard := none }) (v := ?_) rfl (by kernel_rfl) (by kernel_rfl) (by kernel_rfl) (fun _ _ _ h => h) (Or.inl ⟨by rfl, ?_⟩) hH ?_
      rotate_left
      · (intro w hSw; (try dsimp only at hSw); go_simp; (try with_reducible rfl))
      try simp only [Act.put, List.setIfInBounds_toArray, List.set_cons_zero, List.set_cons_succ]
      refine wpAnyH_take (i := 5) (oi := { dst := some 18, op := Op.load 47 (Operand.tmp 3), type := _, pos := _, after := _, guard := none }) (v := ?_) rfl (by kernel_rfl) (by kernel_rfl) (by kernel_rfl) (fun _ _ _ h => h) (Or.inl ⟨by rfl, ?_⟩) hH ?_
      rotate_left
      · (intro w hSw; (try dsimp only at hSw); go_simp; (try with_reducible rfl))
      try simp only [Act.put, List.setIfInBounds_toArray, List.set_cons_zero, List.set_cons_succ]
      refine wpAnyH_ready (rs := [4]) (by kernel_rfl) (by simp) ?_
      refine AllReadyH.cons (o := { dst := some 17, op := Op.call { callee := Callee.value (Operand.func 36), args := #[Operand.tmp 16], argTypes := #[69] }, type := _, pos := _, after := _, guard := none }) rfl (fun K hK => ?_) AllReadyH.nil
      go_simp
      (with_reducible refine (RX.out _).mono ?_); rintro e v5_4 ⟨rfl, g⟩
      replace HO := Lib.hid (own_kep (World.ownsRow.drew HO.out) g (Nat.le_refl _))
      refine hK.out _ _ (by (try dsimp only); (go_split_ands; exact ⟨Kep.all g (by assumption), Kep.all g (by assumption), Kep.all g (by assumption), Kep.all g (by assumption), Kep.all g (by assumption), Kep.all g (by assumption), Kep.all g (by assumption), Kep.all g (by assumption), Kep.all g (by assumption), Kep.all g (by assumption), Kep.all g (by assumption), Kep.all g (by assumption), Kep.all g (by assumption), Kep.all g (by assumption), kep_next (by assumption) g⟩)) (fun hH2 => ?_)
      clear hK K hH; have hH := hH2; clear hH2
      try simp only [Act.put, List.setIfInBounds_toArray, List.set_cons_zero, List.set_cons_succ]
      refine wpAnyH_ready (rs := [6]) (by kernel_rfl) (by simp) ?_
      refine AllReadyH.cons (o := { dst := some 19, op := Op.call { callee := Callee.value (Operand.func 24), args := #[Operand.tmp 17, Operand.tmp 18], argTypes := #[47, 47] }, type := _, pos := _, after := _, guard := none }) rfl (fun K hK => ?_) AllReadyH.nil
      go_simp
      (with_reducible refine (RV.out _).mono ?_); rintro e v5_6 ⟨rfl, g⟩
      replace HO := Lib.hid (own_kep HO.out g (Nat.le_refl _))
      refine hK.out _ _ (by (try dsimp only); (go_split_ands; exact ⟨Kep.all g (by assumption), Kep.all g (by assumption), Kep.all g (by assumption), Kep.all g (by assumption), Kep.all g (by assumption), Kep.all g (by assumption), Kep.all g (by assumption), Kep.all g (by assumption), Kep.all g (by assumption), Kep.all g (by assumption), Kep.all g (by assumption), Kep.all g (by assumption), Kep.all g (by assumption), Kep.all g (by assumption), kep_next (by assumption) g⟩)) (fun hH2 => ?_)
      clear hK K hH; have hH := hH2; clear hH2
      try simp only [Act.put, List.setIfInBounds_toArray, List.set_cons_zero, List.set_cons_succ]
      refine wpAnyH_done (by kernel_rfl) ?_ _
      refine NoPanic.normal ?_
      clear s0 s1 s2 s3 s4 s5 s6 s7 s8 s9 b0 b1 b2 b3 gg
      obtain ⟨s0, s1, s2, s3, s4, s5, s6, s7, s8, s9, b0, b1, b2, b3, gg⟩ := hH
      cases z
      · go_wp2_with fail
        go_roundw
        case rel => exact ⟨k + 1, by omega, by go_num, Lib.hid ⟨P, by have := HPE.out; simpa using this, HO.out, gg⟩⟩
        case measure => simp [RowKit.intOf]; omega
      · go_wp2_with (first
          | (at_builtin; refine wpList_app kv 1 kv_len kv_one rfl _ _ 27 rfl 42 _ 4 Tryd.underlying27 info_u32 rfl (by decide) W1.heap.size _ _ P x.k rfl HO.out _ (by first | rfl | simp) rfl _ rfl (by unfold maxLen; omega) (by omega) gg.size ?_; intro v3 w3 o3 k3))
        have HM : Hid (∃ P, P ++ withL (L.drop (k + 1)) ba bb bc bd = withL L ba bb bc bd ∧ w3.ownsRow W1.heap.size 42 1 v3 P.length (P.flatMap kv) ∧ Kep W1.heap.size W1 w3) := Lib.hid ⟨P ++ [x.k], by have := HPE.out; simpa using this, o3, gg.trans k3⟩
        clear o3 k3
        go_roundw
        case rel => exact ⟨k + 1, by omega, by go_num, HM⟩
        case measure => simp [RowKit.intOf]; omega
    · obtain rfl : k = len := by omega
      go_wp2_with fail
      go_ret
      obtain ⟨P, h1, h2, h3⟩ := HP.out
      rw [List.drop_of_length_le (by rw [HN.out]; omega)] at h1
      rw [show P = withL L ba bb bc bd by rw [← h1]; simp [withL]] at h2
      exact ⟨_, rfl, own_sq kv_len h2, K0.out.trans (h3.mono K0.out.size)⟩
/-- A body is alone among L. -/
def lonT (x y : Bd) : Bool := decide (y.k = x.k) || !ovP x y
theorem lon_all {L : List Bd} {x : Bd} {key : Int} (h : look L key = some x) : lonB L key = L.all (lonT x) := by
  have e := (look_some h).2
  unfold lonB
  rw [h]
  subst e
  rfl
theorem all_take {t : Bd → Bool} {L : List Bd} {k : Nat} {y : Bd} (h : L[k]? = some y) : (L.take (k + 1)).all t = ((L.take k).all t && t y) := by
  rw [List.take_add_one, h]
  simp
abbrev RPl (L : List Bd) (key : Int) (z : Bool) : Prop := ∀ v w, Lst w v L → Calls Tryd.prog 34 #[v, .int .u32 key] w fun e w' => e = .returned (.bool z) ∧ Kep w.heap.size w w'
set_option maxRecDepth 100000 in
set_option maxHeartbeats 2000000 in
theorem rpl_none (L : List Bd) (key : Int) (hm : L.length ≤ 1000000) (hq : look L key = none) : RPl L key false := fun v w h => by
  obtain ⟨base, cap, rfl⟩ := h.shape
  have HL0 := Lib.hid h
  have FD := Lib.hid (fun w h => find_any (.slice base L.length cap) L key w h (by omega))
  rw [(place_eq L key 0).1 hq] at FD
  clear h hq
  go_enter Tryd.func34, Tryd.ntmps34
  go_wp2_with (first
    | ((with_reducible refine (FD.out _ HL0.out).mono ?_); rintro e w1 ⟨rfl, rfl⟩))
  go_ret
  exact ⟨rfl, Kep.refl _ _⟩
set_option maxRecDepth 100000 in
set_option maxHeartbeats 8000000 in
theorem rpl_some (L : List Bd) (key : Int) (x : Bd) (hm : L.length ≤ 1000000) (HV : Hid (∀ x ∈ L, chkB x = 0)) (hA : Asc L) (hq : look L key = some x) : RPl L key (L.all (lonT x)) := fun v w h => by
  obtain ⟨base, cap, rfl⟩ := h.shape
  have HC := Lib.hid (fun (k : Nat) (x : Bd) (hx : L[k]? = some x) => h.at_ hx)
  have HL0 := Lib.hid h
  have FD := Lib.hid (fun w h => find_any (.slice base L.length cap) L key w h (by omega))
  obtain ⟨j, hj, hx⟩ := (place_eq L key 0).2 x hq
  rw [hj, Nat.zero_add] at FD
  have hjl : j < L.length := (List.getElem?_eq_some_iff.1 hx).1
  have hAL := Lib.hid (fun (k : Nat) (y : Bd) (hy : L[k]? = some y) (c : k ≠ j) => (show y.k ≠ x.k by
    rcases Nat.lt_or_gt_of_ne c with c | c
    · have := asc_lt hA hy hx c; omega
    · have := asc_lt hA hx hy c; omega))
  obtain ⟨gl, off, rfl, qx⟩ := HC.out j x hx
  have HQX := Lib.hid qx
  obtain ⟨xa, ya, za, ta, RX, hex⟩ := rok (HV.out x (List.mem_of_getElem? hx))
  have HEX := Lib.hid hex
  have HXJ := Lib.hid hx
  clear h hq hj hx qx hex
  generalize hl : L.length = len at *
  have HN := Lib.hid hl
  clear hl
  go_enter Tryd.func34, Tryd.ntmps34
  go_wp2_with (first
    | ((with_reducible refine (FD.out _ HL0.out).mono ?_); rintro e w1 ⟨rfl, rfl⟩))
  go_loopw [6] (fun i wr => ∃ k : Nat, k ≤ len ∧ i = .int .i64 k ∧ Hid ((L.take k).all (lonT x) = true ∧ Kep w.heap.size w wr)) (fun i _ => len - (RowKit.intOf i).toNat)
  case atStart => exact ⟨0, by omega, rfl, Lib.hid ⟨by simp, Kep.refl _ _⟩⟩
  case round =>
    obtain ⟨k, hk, rfl, HP⟩ := hrel
    have gg := HP.out.2
    by_cases hlt : k < len
    · by_cases hkj : k = j
      · subst hkj
        have HT : Hid ((L.take (k + 1)).all (lonT x) = true) := Lib.hid (by rw [all_take HXJ.out, HP.out.1]; simp [lonT])
        have qn : ((k : Int) != (k : Int)) = false := by simp
        clear HP
        go_wp2_with fail
        refine wp_region_noPanic ?_
        refine wp_region_held_drew (S := (fun w' => Kep w.heap.size w w')) (by kernel_rfl) (kep_drew gg) (fun hH => ?_)
        refine wpAnyH_take (i := 0) (oi := { dst := some 18, op := Op.move (Operand.tmp 6), type := _, pos := _, after := _, guard := none }) (v := ?_) rfl (by kernel_rfl) (by kernel_rfl) (by kernel_rfl) (fun _ _ _ h => h) (Or.inl ⟨by rfl, ?_⟩) hH ?_
        rotate_left
        · (intro w hSw; (try dsimp only at hSw); go_simp; (try with_reducible rfl))
        try simp only [Act.put, List.setIfInBounds_toArray, List.set_cons_zero, List.set_cons_succ]
        refine wpAnyH_take (i := 1) (oi := { dst := some 19, op := Op.move (Operand.tmp 5), type := _, pos := _, after := _, guard := none }) (v := ?_) rfl (by kernel_rfl) (by kernel_rfl) (by kernel_rfl) (fun _ _ _ h => h) (Or.inl ⟨by rfl, ?_⟩) hH ?_
        rotate_left
        · (intro w hSw; (try dsimp only at hSw); go_simp; (try with_reducible rfl))
        try simp only [Act.put, List.setIfInBounds_toArray, List.set_cons_zero, List.set_cons_succ]
        refine wpAnyH_take (i := 2) (oi := { dst := some 20, op := Op.binOp BinOp.neq 3 (Operand.tmp 18) (Operand.tmp 19) 3, type := _, pos := _, after := _, guard := none }) (v := ?_) rfl (by kernel_rfl) (by kernel_rfl) (by kernel_rfl) (fun _ _ _ h => h) (Or.inl ⟨by rfl, ?_⟩) hH ?_
        rotate_left
        · (intro w hSw; (try dsimp only at hSw); go_simp; (try with_reducible rfl))
        try simp only [Act.put, List.setIfInBounds_toArray, List.set_cons_zero, List.set_cons_succ]
        refine wpAnyH_take (i := 3) (oi := { dst := some 21, op := Op.move (Operand.tmp 20), type := _, pos := _, after := _, guard := none }) (v := ?_) rfl (by kernel_rfl) (by kernel_rfl) (by kernel_rfl) (fun _ _ _ h => h) (Or.inl ⟨by rfl, ?_⟩) hH ?_
        rotate_left
        · (intro w hSw; (try dsimp only at hSw); go_simp; (try with_reducible rfl))
        try simp only [Act.put, List.setIfInBounds_toArray, List.set_cons_zero, List.set_cons_succ]
        refine wpAnyH_take (i := 4) (oi := { dst := some 22, op := Op.move (Operand.tmp 0), type := _, pos := _, after := _, guard := some (3, true) }) (v := undef) rfl (by kernel_rfl) (by kernel_rfl) (by kernel_rfl) (fun _ _ _ h => h) (Or.inr ⟨by rfl, rfl⟩) hH ?_
        try simp only [Act.put, List.setIfInBounds_toArray, List.set_cons_zero, List.set_cons_succ]
        refine wpAnyH_take (i := 5) (oi := { dst := some 23, op := Op.move (Operand.tmp 5), type := _, pos := _, after := _, guard := some (3, true) }) (v := undef) rfl (by kernel_rfl) (by kernel_rfl) (by kernel_rfl) (fun _ _ _ h => h) (Or.inr ⟨by rfl, rfl⟩) hH ?_
        try simp only [Act.put, List.setIfInBounds_toArray, List.set_cons_zero, List.set_cons_succ]
        refine wpAnyH_take (i := 6) (oi := { dst := some 24, op := Op.indexAddr 55 (Operand.tmp 22) (Operand.tmp 23), type := _, pos := _, after := _, guard := some (3, true) }) (v := undef) rfl (by kernel_rfl) (by kernel_rfl) (by kernel_rfl) (fun _ _ _ h => h) (Or.inr ⟨by rfl, rfl⟩) hH ?_
        try simp only [Act.put, List.setIfInBounds_toArray, List.set_cons_zero, List.set_cons_succ]
        refine wpAnyH_take (i := 7) (oi := { dst := some 25, op := Op.load 69 (Operand.tmp 24), type := _, pos := _, after := _, guard := some (3, true) }) (v := undef) rfl (by kernel_rfl) (by kernel_rfl) (by kernel_rfl) (fun _ _ _ h => h) (Or.inr ⟨by rfl, rfl⟩) hH ?_
        try simp only [Act.put, List.setIfInBounds_toArray, List.set_cons_zero, List.set_cons_succ]
        refine wpAnyH_take (i := 8) (oi := { dst := some 26, op := Op.call { callee := Callee.value (Operand.func 36), args := #[Operand.tmp 25], argTypes := #[69] }, type := _, pos := _, after := _, guard := some (3, true) }) (v := undef) rfl (by kernel_rfl) (by kernel_rfl) (by kernel_rfl) (fun _ _ _ h => h) (Or.inr ⟨by rfl, rfl⟩) hH ?_
        try simp only [Act.put, List.setIfInBounds_toArray, List.set_cons_zero, List.set_cons_succ]
        refine wpAnyH_take (i := 9) (oi := { dst := some 27, op := Op.move (Operand.tmp 0), type := _, pos := _, after := _, guard := some (3, true) }) (v := undef) rfl (by kernel_rfl) (by kernel_rfl) (by kernel_rfl) (fun _ _ _ h => h) (Or.inr ⟨by rfl, rfl⟩) hH ?_
        try simp only [Act.put, List.setIfInBounds_toArray, List.set_cons_zero, List.set_cons_succ]
        refine wpAnyH_take (i := 10) (oi := { dst := some 28, op := Op.move (Operand.tmp 6), type := _, pos := _, after := _, guard := some (3, true) }) (v := undef) rfl (by kernel_rfl) (by kernel_rfl) (by kernel_rfl) (fun _ _ _ h => h) (Or.inr ⟨by rfl, rfl⟩) hH ?_
        try simp only [Act.put, List.setIfInBounds_toArray, List.set_cons_zero, List.set_cons_succ]
        refine wpAnyH_take (i := 11) (oi := { dst := some 29, op := Op.indexAddr 55 (Operand.tmp 27) (Operand.tmp 28), type := _, pos := _, after := _, guard := some (3, true) }) (v := undef) rfl (by kernel_rfl) (by kernel_rfl) (by kernel_rfl) (fun _ _ _ h => h) (Or.inr ⟨by rfl, rfl⟩) hH ?_
        try simp only [Act.put, List.setIfInBounds_toArray, List.set_cons_zero, List.set_cons_succ]
        refine wpAnyH_take (i := 12) (oi := { dst := some 30, op := Op.load 69 (Operand.tmp 29), type := _, pos := _, after := _, guard := some (3, true) }) (v := undef) rfl (by kernel_rfl) (by kernel_rfl) (by kernel_rfl) (fun _ _ _ h => h) (Or.inr ⟨by rfl, rfl⟩) hH ?_
        try simp only [Act.put, List.setIfInBounds_toArray, List.set_cons_zero, List.set_cons_succ]
        refine wpAnyH_take (i := 13) (oi := { dst := some 31, op := Op.call { callee := Callee.value (Operand.func 36), args := #[Operand.tmp 30], argTypes := #[69] }, type := _, pos := _, after := _, guard := some (3, true) }) (v := undef) rfl (by kernel_rfl) (by kernel_rfl) (by kernel_rfl) (fun _ _ _ h => h) (Or.inr ⟨by rfl, rfl⟩) hH ?_
        try simp only [Act.put, List.setIfInBounds_toArray, List.set_cons_zero, List.set_cons_succ]
        refine wpAnyH_take (i := 14) (oi := { dst := some 32, op := Op.call { callee := Callee.value (Operand.func 24), args := #[Operand.tmp 26, Operand.tmp 31], argTypes := #[47, 47] }, type := _, pos := _, after := _, guard := some (3, true) }) (v := undef) rfl (by kernel_rfl) (by kernel_rfl) (by kernel_rfl) (fun _ _ _ h => h) (Or.inr ⟨by rfl, rfl⟩) hH ?_
        try simp only [Act.put, List.setIfInBounds_toArray, List.set_cons_zero, List.set_cons_succ]
        refine wpAnyH_take (i := 15) (oi := { dst := some 33, op := Op.pick (Operand.tmp 21) (Operand.tmp 32) (Operand.const (Value.bool false)), type := _, pos := _, after := _, guard := none }) (v := ?_) rfl (by kernel_rfl) (by kernel_rfl) (by kernel_rfl) (fun _ _ _ h => h) (Or.inl ⟨by rfl, ?_⟩) hH ?_
        rotate_left
        · (intro w hSw; (try dsimp only at hSw); go_simp; (try with_reducible rfl))
        try simp only [Act.put, List.setIfInBounds_toArray, List.set_cons_zero, List.set_cons_succ]
        refine wpAnyH_done (by kernel_rfl) ?_ _
        refine NoPanic.normal ?_
        clear  gg
        have gg := hH
        go_wp2_with fail
        go_roundw
        case rel => exact ⟨k + 1, by omega, by go_num, Lib.hid ⟨HT.out, gg⟩⟩
        case measure => simp [RowKit.intOf]; omega
      · have qn : ((k : Int) != (j : Int)) = true := bne_iff_ne.2 (by omega)
        have hb : L[k]? = some (L[k]'(by rw [HN.out]; exact hlt)) := List.getElem?_eq_getElem _
        generalize L[k]'(by rw [HN.out]; exact hlt) = y at hb
        obtain ⟨_, _, e0, qy⟩ := HC.out k y hb
        injection e0 with e0
        injection e0 with e1 e2
        subst e1 e2
        have HQY := Lib.hid qy
        obtain ⟨xb, yb, zb, tb, RY, hey⟩ := rok (HV.out y (List.mem_of_getElem? hb))
        obtain ⟨z, hz⟩ : ∃ z, ovP x y = z := ⟨_, rfl⟩
        have RV := rvp HEX.out hey hz
        have HNE := hAL.out k y hb hkj
        have HLT : Hid (lonT x y = !z) := Lib.hid (by unfold lonT; rw [decide_eq_false HNE, hz]; rfl)
        have HT := HP
        have HB := Lib.hid hb
        clear hb qy hey hz HP HNE hkj
        have s0 : wr.cell? ⟨gl, off + j * 10, none⟩ = some (.int .u32 x.k) := gg.all (HQX.out 0 (by decide))
        have s1 : wr.cell? ⟨gl, off + j * 10 + 1, none⟩ = some (.int .i32 x.r) := gg.all (HQX.out 1 (by decide))
        have s2 : wr.cell? ⟨gl, off + j * 10 + 2, none⟩ = some (.int .i32 x.ax) := gg.all (HQX.out 2 (by decide))
        have s3 : wr.cell? ⟨gl, off + j * 10 + 3, none⟩ = some (.int .i32 x.ay) := gg.all (HQX.out 3 (by decide))
        have s4 : wr.cell? ⟨gl, off + j * 10 + 4, none⟩ = some (.int .i32 x.m) := gg.all (HQX.out 4 (by decide))
        have s5 : wr.cell? ⟨gl, off + j * 10 + 5, none⟩ = some (.int .i32 x.o) := gg.all (HQX.out 5 (by decide))
        have s6 : wr.cell? ⟨gl, off + j * 10 + 6, none⟩ = some (.int .i32 x.px) := gg.all (HQX.out 6 (by decide))
        have s7 : wr.cell? ⟨gl, off + j * 10 + 7, none⟩ = some (.int .i32 x.py) := gg.all (HQX.out 7 (by decide))
        have s8 : wr.cell? ⟨gl, off + j * 10 + 8, none⟩ = some (.int .i32 x.vx) := gg.all (HQX.out 8 (by decide))
        have s9 : wr.cell? ⟨gl, off + j * 10 + 9, none⟩ = some (.int .i32 x.vy) := gg.all (HQX.out 9 (by decide))
        have t0 : wr.cell? ⟨gl, off + k * 10, none⟩ = some (.int .u32 y.k) := gg.all (HQY.out 0 (by decide))
        have t1 : wr.cell? ⟨gl, off + k * 10 + 1, none⟩ = some (.int .i32 y.r) := gg.all (HQY.out 1 (by decide))
        have t2 : wr.cell? ⟨gl, off + k * 10 + 2, none⟩ = some (.int .i32 y.ax) := gg.all (HQY.out 2 (by decide))
        have t3 : wr.cell? ⟨gl, off + k * 10 + 3, none⟩ = some (.int .i32 y.ay) := gg.all (HQY.out 3 (by decide))
        have t4 : wr.cell? ⟨gl, off + k * 10 + 4, none⟩ = some (.int .i32 y.m) := gg.all (HQY.out 4 (by decide))
        have t5 : wr.cell? ⟨gl, off + k * 10 + 5, none⟩ = some (.int .i32 y.o) := gg.all (HQY.out 5 (by decide))
        have t6 : wr.cell? ⟨gl, off + k * 10 + 6, none⟩ = some (.int .i32 y.px) := gg.all (HQY.out 6 (by decide))
        have t7 : wr.cell? ⟨gl, off + k * 10 + 7, none⟩ = some (.int .i32 y.py) := gg.all (HQY.out 7 (by decide))
        have t8 : wr.cell? ⟨gl, off + k * 10 + 8, none⟩ = some (.int .i32 y.vx) := gg.all (HQY.out 8 (by decide))
        have t9 : wr.cell? ⟨gl, off + k * 10 + 9, none⟩ = some (.int .i32 y.vy) := gg.all (HQY.out 9 (by decide))
        go_wp2_with fail
        refine wp_region_noPanic ?_
        refine wp_region_held_drew (S := (fun w' => w'.cell? ⟨gl, off + j * 10, none⟩ = some (.int .u32 x.k) ∧ w'.cell? ⟨gl, off + j * 10 + 1, none⟩ = some (.int .i32 x.r) ∧ w'.cell? ⟨gl, off + j * 10 + 2, none⟩ = some (.int .i32 x.ax) ∧ w'.cell? ⟨gl, off + j * 10 + 3, none⟩ = some (.int .i32 x.ay) ∧ w'.cell? ⟨gl, off + j * 10 + 4, none⟩ = some (.int .i32 x.m) ∧ w'.cell? ⟨gl, off + j * 10 + 5, none⟩ = some (.int .i32 x.o) ∧ w'.cell? ⟨gl, off + j * 10 + 6, none⟩ = some (.int .i32 x.px) ∧ w'.cell? ⟨gl, off + j * 10 + 7, none⟩ = some (.int .i32 x.py) ∧ w'.cell? ⟨gl, off + j * 10 + 8, none⟩ = some (.int .i32 x.vx) ∧ w'.cell? ⟨gl, off + j * 10 + 9, none⟩ = some (.int .i32 x.vy) ∧ w'.cell? ⟨gl, off + k * 10, none⟩ = some (.int .u32 y.k) ∧ w'.cell? ⟨gl, off + k * 10 + 1, none⟩ = some (.int .i32 y.r) ∧ w'.cell? ⟨gl, off + k * 10 + 2, none⟩ = some (.int .i32 y.ax) ∧ w'.cell? ⟨gl, off + k * 10 + 3, none⟩ = some (.int .i32 y.ay) ∧ w'.cell? ⟨gl, off + k * 10 + 4, none⟩ = some (.int .i32 y.m) ∧ w'.cell? ⟨gl, off + k * 10 + 5, none⟩ = some (.int .i32 y.o) ∧ w'.cell? ⟨gl, off + k * 10 + 6, none⟩ = some (.int .i32 y.px) ∧ w'.cell? ⟨gl, off + k * 10 + 7, none⟩ = some (.int .i32 y.py) ∧ w'.cell? ⟨gl, off + k * 10 + 8, none⟩ = some (.int .i32 y.vx) ∧ w'.cell? ⟨gl, off + k * 10 + 9, none⟩ = some (.int .i32 y.vy) ∧ Kep w.heap.size w w')) (by kernel_rfl) (⟨by rw [World.cell?_drew]; exact s0, by rw [World.cell?_drew]; exact s1, by rw [World.cell?_drew]; exact s2, by rw [World.cell?_drew]; exact s3, by rw [World.cell?_drew]; exact s4, by rw [World.cell?_drew]; exact s5, by rw [World.cell?_drew]; exact s6, by rw [World.cell?_drew]; exact s7, by rw [World.cell?_drew]; exact s8, by rw [World.cell?_drew]; exact s9, by rw [World.cell?_drew]; exact t0, by rw [World.cell?_drew]; exact t1, by rw [World.cell?_drew]; exact t2, by rw [World.cell?_drew]; exact t3, by rw [World.cell?_drew]; exact t4, by rw [World.cell?_drew]; exact t5, by rw [World.cell?_drew]; exact t6, by rw [World.cell?_drew]; exact t7, by rw [World.cell?_drew]; exact t8, by rw [World.cell?_drew]; exact t9, kep_drew gg⟩) (fun hH => ?_)
        refine wpAnyH_take (i := 0) (oi := { dst := some 18, op := Op.move (Operand.tmp 6), type := _, pos := _, after := _, guard := none }) (v := ?_) rfl (by kernel_rfl) (by kernel_rfl) (by kernel_rfl) (fun _ _ _ h => h) (Or.inl ⟨by rfl, ?_⟩) hH ?_
        rotate_left
        · (intro w hSw; (try dsimp only at hSw); go_simp; (try with_reducible rfl))
        try simp only [Act.put, List.setIfInBounds_toArray, List.set_cons_zero, List.set_cons_succ]
        refine wpAnyH_take (i := 1) (oi := { dst := some 19, op := Op.move (Operand.tmp 5), type := _, pos := _, after := _, guard := none }) (v := ?_) rfl (by kernel_rfl) (by kernel_rfl) (by kernel_rfl) (fun _ _ _ h => h) (Or.inl ⟨by rfl, ?_⟩) hH ?_
        rotate_left
        · (intro w hSw; (try dsimp only at hSw); go_simp; (try with_reducible rfl))
        try simp only [Act.put, List.setIfInBounds_toArray, List.set_cons_zero, List.set_cons_succ]
        refine wpAnyH_take (i := 2) (oi := { dst := some 20, op := Op.binOp BinOp.neq 3 (Operand.tmp 18) (Operand.tmp 19) 3, type := _, pos := _, after := _, guard := none }) (v := ?_) rfl (by kernel_rfl) (by kernel_rfl) (by kernel_rfl) (fun _ _ _ h => h) (Or.inl ⟨by rfl, ?_⟩) hH ?_
        rotate_left
        · (intro w hSw; (try dsimp only at hSw); go_simp; (try with_reducible rfl))
        try simp only [Act.put, List.setIfInBounds_toArray, List.set_cons_zero, List.set_cons_succ]
        refine wpAnyH_take (i := 3) (oi := { dst := some 21, op := Op.move (Operand.tmp 20), type := _, pos := _, after := _, guard := none }) (v := ?_) rfl (by kernel_rfl) (by kernel_rfl) (by kernel_rfl) (fun _ _ _ h => h) (Or.inl ⟨by rfl, ?_⟩) hH ?_
        rotate_left
        · (intro w hSw; (try dsimp only at hSw); go_simp; (try with_reducible rfl))
        try simp only [Act.put, List.setIfInBounds_toArray, List.set_cons_zero, List.set_cons_succ]
        refine wpAnyH_take (i := 4) (oi := { dst := some 22, op := Op.move (Operand.tmp 0), type := _, pos := _, after := _, guard := some (3, true) }) (v := ?_) rfl (by kernel_rfl) (by kernel_rfl) (by kernel_rfl) (fun _ _ _ h => h) (Or.inl ⟨by rfl, ?_⟩) hH ?_
        rotate_left
        · (intro w hSw; (try dsimp only at hSw); go_simp; (try with_reducible rfl))
        try simp only [Act.put, List.setIfInBounds_toArray, List.set_cons_zero, List.set_cons_succ]
        refine wpAnyH_take (i := 5) (oi := { dst := some 23, op := Op.move (Operand.tmp 5), type := _, pos := _, after := _, guard := some (3, true) }) (v := ?_) rfl (by kernel_rfl) (by kernel_rfl) (by kernel_rfl) (fun _ _ _ h => h) (Or.inl ⟨by rfl, ?_⟩) hH ?_
        rotate_left
        · (intro w hSw; (try dsimp only at hSw); go_simp; (try with_reducible rfl))
        try simp only [Act.put, List.setIfInBounds_toArray, List.set_cons_zero, List.set_cons_succ]
        refine wpAnyH_take (i := 6) (oi := { dst := some 24, op := Op.indexAddr 55 (Operand.tmp 22) (Operand.tmp 23), type := _, pos := _, after := _, guard := some (3, true) }) (v := ?_) rfl (by kernel_rfl) (by kernel_rfl) (by kernel_rfl) (fun _ _ _ h => h) (Or.inl ⟨by rfl, ?_⟩) hH ?_
        rotate_left
        · (intro w hSw; (try dsimp only at hSw); go_simp; (try with_reducible rfl))
        try simp only [Act.put, List.setIfInBounds_toArray, List.set_cons_zero, List.set_cons_succ]
        refine wpAnyH_take (i := 7) (oi := { dst := some 25, op := Op.load 69 (Operand.tmp 24), type := _, pos := _, after := _, guard := some (3, true) }) (v := ?_) rfl (by kernel_rfl) (by kernel_rfl) (by kernel_rfl) (fun _ _ _ h => h) (Or.inl ⟨by rfl, ?_⟩) hH ?_
        rotate_left
        · (intro w hSw; (try dsimp only at hSw); go_simp; (try with_reducible rfl))
        try simp only [Act.put, List.setIfInBounds_toArray, List.set_cons_zero, List.set_cons_succ]
        refine wpAnyH_take (i := 9) (oi := { dst := some 27, op := Op.move (Operand.tmp 0), type := _, pos := _, after := _, guard := some (3, true) }) (v := ?_) rfl (by kernel_rfl) (by kernel_rfl) (by kernel_rfl) (fun _ _ _ h => h) (Or.inl ⟨by rfl, ?_⟩) hH ?_
        rotate_left
        · (intro w hSw; (try dsimp only at hSw); go_simp; (try with_reducible rfl))
        try simp only [Act.put, List.setIfInBounds_toArray, List.set_cons_zero, List.set_cons_succ]
        refine wpAnyH_take (i := 10) (oi := { dst := some 28, op := Op.move (Operand.tmp 6), type := _, pos := _, after := _, guard := some (3, true) }) (v := ?_) rfl (by kernel_rfl) (by kernel_rfl) (by kernel_rfl) (fun _ _ _ h => h) (Or.inl ⟨by rfl, ?_⟩) hH ?_
        rotate_left
        · (intro w hSw; (try dsimp only at hSw); go_simp; (try with_reducible rfl))
        try simp only [Act.put, List.setIfInBounds_toArray, List.set_cons_zero, List.set_cons_succ]
        refine wpAnyH_take (i := 11) (oi := { dst := some 29, op := Op.indexAddr 55 (Operand.tmp 27) (Operand.tmp 28), type := _, pos := _, after := _, guard := some (3, true) }) (v := ?_) rfl (by kernel_rfl) (by kernel_rfl) (by kernel_rfl) (fun _ _ _ h => h) (Or.inl ⟨by rfl, ?_⟩) hH ?_
        rotate_left
        · (intro w hSw; (try dsimp only at hSw); go_simp; (try with_reducible rfl))
        try simp only [Act.put, List.setIfInBounds_toArray, List.set_cons_zero, List.set_cons_succ]
        refine wpAnyH_take (i := 12) (oi := { dst := some 30, op := Op.load 69 (Operand.tmp 29), type := _, pos := _, after := _, guard := some (3, true) }) (v := ?_) rfl (by kernel_rfl) (by kernel_rfl) (by kernel_rfl) (fun _ _ _ h => h) (Or.inl ⟨by rfl, ?_⟩) hH ?_
        rotate_left
        · (intro w hSw; (try dsimp only at hSw); go_simp; (try with_reducible rfl))
        try simp only [Act.put, List.setIfInBounds_toArray, List.set_cons_zero, List.set_cons_succ]
        refine wpAnyH_ready (rs := [8]) (by kernel_rfl) (by simp) ?_
        refine AllReadyH.cons (o := { dst := some 26, op := Op.call { callee := Callee.value (Operand.func 36), args := #[Operand.tmp 25], argTypes := #[69] }, type := _, pos := _, after := _, guard := some (3, true) }) rfl (fun K hK => ?_) AllReadyH.nil
        go_simp
        (with_reducible refine (RX.out _).mono ?_); rintro e v7_8 ⟨rfl, g⟩
        refine hK.out _ _ (by (try dsimp only); (go_split_ands; exact ⟨Kep.all g (by assumption), Kep.all g (by assumption), Kep.all g (by assumption), Kep.all g (by assumption), Kep.all g (by assumption), Kep.all g (by assumption), Kep.all g (by assumption), Kep.all g (by assumption), Kep.all g (by assumption), Kep.all g (by assumption), Kep.all g (by assumption), Kep.all g (by assumption), Kep.all g (by assumption), Kep.all g (by assumption), Kep.all g (by assumption), Kep.all g (by assumption), Kep.all g (by assumption), Kep.all g (by assumption), Kep.all g (by assumption), Kep.all g (by assumption), kep_next (by assumption) g⟩)) (fun hH2 => ?_)
        clear hK K hH; have hH := hH2; clear hH2
        try simp only [Act.put, List.setIfInBounds_toArray, List.set_cons_zero, List.set_cons_succ]
        refine wpAnyH_ready (rs := [13]) (by kernel_rfl) (by simp) ?_
        refine AllReadyH.cons (o := { dst := some 31, op := Op.call { callee := Callee.value (Operand.func 36), args := #[Operand.tmp 30], argTypes := #[69] }, type := _, pos := _, after := _, guard := some (3, true) }) rfl (fun K hK => ?_) AllReadyH.nil
        go_simp
        (with_reducible refine (RY.out _).mono ?_); rintro e v7_13 ⟨rfl, g⟩
        refine hK.out _ _ (by (try dsimp only); (go_split_ands; exact ⟨Kep.all g (by assumption), Kep.all g (by assumption), Kep.all g (by assumption), Kep.all g (by assumption), Kep.all g (by assumption), Kep.all g (by assumption), Kep.all g (by assumption), Kep.all g (by assumption), Kep.all g (by assumption), Kep.all g (by assumption), Kep.all g (by assumption), Kep.all g (by assumption), Kep.all g (by assumption), Kep.all g (by assumption), Kep.all g (by assumption), Kep.all g (by assumption), Kep.all g (by assumption), Kep.all g (by assumption), Kep.all g (by assumption), Kep.all g (by assumption), kep_next (by assumption) g⟩)) (fun hH2 => ?_)
        clear hK K hH; have hH := hH2; clear hH2
        try simp only [Act.put, List.setIfInBounds_toArray, List.set_cons_zero, List.set_cons_succ]
        refine wpAnyH_ready (rs := [14]) (by kernel_rfl) (by simp) ?_
        refine AllReadyH.cons (o := { dst := some 32, op := Op.call { callee := Callee.value (Operand.func 24), args := #[Operand.tmp 26, Operand.tmp 31], argTypes := #[47, 47] }, type := _, pos := _, after := _, guard := some (3, true) }) rfl (fun K hK => ?_) AllReadyH.nil
        go_simp
        (with_reducible refine (RV.out _).mono ?_); rintro e v7_14 ⟨rfl, g⟩
        refine hK.out _ _ (by (try dsimp only); (go_split_ands; exact ⟨Kep.all g (by assumption), Kep.all g (by assumption), Kep.all g (by assumption), Kep.all g (by assumption), Kep.all g (by assumption), Kep.all g (by assumption), Kep.all g (by assumption), Kep.all g (by assumption), Kep.all g (by assumption), Kep.all g (by assumption), Kep.all g (by assumption), Kep.all g (by assumption), Kep.all g (by assumption), Kep.all g (by assumption), Kep.all g (by assumption), Kep.all g (by assumption), Kep.all g (by assumption), Kep.all g (by assumption), Kep.all g (by assumption), Kep.all g (by assumption), kep_next (by assumption) g⟩)) (fun hH2 => ?_)
        clear hK K hH; have hH := hH2; clear hH2
        try simp only [Act.put, List.setIfInBounds_toArray, List.set_cons_zero, List.set_cons_succ]
        refine wpAnyH_take (i := 15) (oi := { dst := some 33, op := Op.pick (Operand.tmp 21) (Operand.tmp 32) (Operand.const (Value.bool false)), type := _, pos := _, after := _, guard := none }) (v := ?_) rfl (by kernel_rfl) (by kernel_rfl) (by kernel_rfl) (fun _ _ _ h => h) (Or.inl ⟨by rfl, ?_⟩) hH ?_
        rotate_left
        · (intro w hSw; (try dsimp only at hSw); go_simp; (try with_reducible rfl))
        try simp only [Act.put, List.setIfInBounds_toArray, List.set_cons_zero, List.set_cons_succ]
        refine wpAnyH_done (by kernel_rfl) ?_ _
        refine NoPanic.normal ?_
        clear s0 s1 s2 s3 s4 s5 s6 s7 s8 s9 t0 t1 t2 t3 t4 t5 t6 t7 t8 t9 gg
        obtain ⟨s0, s1, s2, s3, s4, s5, s6, s7, s8, s9, t0, t1, t2, t3, t4, t5, t6, t7, t8, t9, gg⟩ := hH
        cases z
        · go_wp2_with fail
          go_roundw
          case rel => exact ⟨k + 1, by omega, by go_num, Lib.hid ⟨by rw [all_take HB.out, HT.out.1, HLT.out]; rfl, gg⟩⟩
          case measure => simp [RowKit.intOf]; omega
        · go_wp2_with fail
          go_ret
          refine ⟨?_, gg⟩
          rw [show L.all (lonT x) = false from List.all_eq_false.2 ⟨y, List.mem_of_getElem? HB.out, by rw [HLT.out]; decide⟩]
          rfl
    · obtain rfl : k = len := by omega
      go_wp2_with fail
      go_ret
      refine ⟨?_, gg⟩
      have h1 := HP.out.1
      rw [List.take_of_length_le (by rw [HN.out]; omega)] at h1
      rw [h1]
      rfl
theorem rpl (L : List Bd) (key : Int) (hm : L.length ≤ 1000000) (HV : Hid (∀ x ∈ L, chkB x = 0)) (hA : Asc L) : RPl L key (lonB L key) := fun v w h => by
  cases hq : look L key with
  | none =>
    have e : lonB L key = false := by unfold lonB; rw [hq]
    rw [e]
    exact rpl_none L key hm hq v w h
  | some x =>
    rw [lon_all hq]
    exact rpl_some L key x hm HV hA hq v w h
/-- The bodies that are a view of at most 40 bodies. -/
def viwB (L : List Bd) : Bool := decide (L.length ≤ 40) && decide (sortE L = 0)
abbrev RVw (L : List Bd) : Prop := ∀ v w, Lst w v L → Calls Tryd.prog 27 #[v] w fun e w' => ∃ v', e = .returned (.tuple #[v', .bool (viwB L)]) ∧ (Lst w' v' (if L.length ≤ 40 then sortL L else []) ∧ New w v' w') ∧ Kep w.heap.size w w'
set_option maxRecDepth 100000 in
set_option maxHeartbeats 2000000 in
theorem rvw (L : List Bd) : RVw L := fun v w h => by
  obtain ⟨base, cap, rfl⟩ := h.shape
  have HL0 := Lib.hid h
  by_cases hl : L.length ≤ 40
  · have FS := Lib.hid (fun w h => rsort_any (.slice base L.length cap) L w h (by omega))
    have hg : decide ((40 : Int) < (L.length : Int)) = false := decide_eq_false (by omega)
    obtain ⟨z, hz⟩ : ∃ z, decide (sortE L = 0) = z := ⟨_, rfl⟩
    have ez : (sortE L == 0) = z := by rw [← hz]; rfl
    have e1 : viwB L = z := by unfold viwB; rw [decide_eq_true hl, hz]; rfl
    rw [e1, if_pos hl]
    have HS : Hid (sortE L == 0) = Hid (sortE L == 0) := rfl
    clear hz e1 HS h
    generalize sortE L = se at *
    go_enter Tryd.func27, Tryd.ntmps27
    go_wp2_with (first
      | ((with_reducible refine (FS.out _ HL0.out).mono ?_); rintro e w1 ⟨v1, rfl, ⟨l1, n1⟩, g1⟩))
    go_ret2
    exact ⟨_, rfl, ⟨l1, n1⟩, g1⟩
  · have hg : decide ((40 : Int) < (L.length : Int)) = true := decide_eq_true (by omega)
    have e1 : viwB L = false := by unfold viwB; rw [decide_eq_false hl]; rfl
    rw [e1, if_neg hl]
    clear h
    go_enter Tryd.func27, Tryd.ntmps27
    go_wp2_with fail
    go_ret2
    exact ⟨_, rfl, ⟨.inl ⟨rfl, none, 0, rfl⟩, new_nil _ _⟩, Kep.refl _ _⟩
end Go.Proofs.YtnmnbogjnjbopaaDoor
end

section
/-
  Package pairs: what the laws ask of the program.
-/
namespace Go.Proofs.YtnmnbogjnjbopaaDoor
open Go.RowKit Go.Lib

abbrev InI (n : Int) : Prop := -2147483648 ≤ n ∧ n < 2147483648
/-- A view of at most 40 bodies. -/
structure Vw (L : List Bd) : Prop where
  asc : Asc L
  ok : ∀ x ∈ L, chkB x = 0
  key : ∀ x ∈ L, (Lit.int .u32 x.k).wf = true
  len : L.length ≤ 40
theorem vw_of {L : List Bd} (h : viwB L = true) (f : ∀ x ∈ L, Fits x) : L.length ≤ 40 ∧ sortE L = 0 ∧ Vw (sortL L) := by
  unfold viwB at h
  rw [Bool.and_eq_true] at h
  have h1 := of_decide_eq_true h.1
  have h2 := of_decide_eq_true h.2
  have h3 := sortL_asc L
  refine ⟨h1, h2, h3.1, ?_, fun x hx => (sortL_fits f x hx).1, by have := h3.2; omega⟩
  exact (eachE_zero.1 (sorted_each h2)).2
abbrev PFind : Prop := ∀ v L w, Fac w → Lst w v L → Vw L → Calls Tryd.prog 29 #[v] w fun e w' => ∃ v' n, e = .returned (.tuple #[v', .int .i64 n]) ∧ (Sq pv 2 w' v' (pairsL L) ∧ ((pairsL L).length : Int) ≤ n ∧ 2 * n ≤ (L.length : Int) * ((L.length : Int) - 1)) ∧ Kep w.heap.size w w'
abbrev PWithin : Prop := ∀ v L a b c d w, Fac w → Lst w v L → Vw L → InI a → InI b → InI c → InI d → Calls Tryd.prog 31 #[v, .agg #[.int .i32 a, .int .i32 b, .int .i32 c, .int .i32 d]] w fun e w' => ∃ v', e = .returned v' ∧ Sq kv 1 w' v' (withL L a b c d) ∧ Kep w.heap.size w w'
abbrev PLonely : Prop := ∀ v L key w, Fac w → Lst w v L → Vw L → (Lit.int .u32 key).wf = true → Calls Tryd.prog 33 #[v, .int .u32 key] w fun e w' => e = .returned (.bool (lonB L key)) ∧ Kep w.heap.size w w'
/-- What the laws ask of the program. -/
structure POps : Prop where
  find : PFind
  within : PWithin
  lonely : PLonely
abbrev PAwake : Prop := ∀ w, Fac w → Calls Tryd.prog 28 #[] w fun e w' => e = .returned (.bool true) ∧ Kep w.heap.size w w'
/-- A list of keys reads as KLst. -/
theorem kv_klst {w : World} {v : Value} {K : List Int} (h : Sq kv 1 w v K) : KLst w v K := by
  obtain ⟨base, cap, rfl, hc⟩ := h
  cases K with
  | nil => exact .inl ⟨rfl, base, cap, rfl⟩
  | cons x K =>
    obtain ⟨g, off, rfl, _⟩ := hc 0 x rfl
    refine .inr ⟨g, off, cap, rfl, fun k y hy => ?_⟩
    obtain ⟨g', off', e, hi⟩ := hc k y hy
    injection e with e
    injection e with e1 e2
    subst e1 e2
    have := hi 0 _ rfl
    rw [Nat.mul_one] at this
    exact this
end Go.Proofs.YtnmnbogjnjbopaaDoor
end
