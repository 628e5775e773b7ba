/-
  Package store: the law StoreOrder.
-/
import Derived.Test.YtfkieieedljodaaStoreRem
import Derived.Deep.QuietTactic
import Derived.BigQuiet
namespace Go.Proofs.Ytfkieieedljodaa
open Go.RowKit Go.Lib Go.Maps

/-- The place that the other order takes j-th. -/
def turn (n k j : Nat) : Nat := if k ≤ j then n - 1 - (j - k) else k - 1 - j
theorem turn_lt {n k j : Nat} (hk : k < n) : turn n k j < n := by unfold turn; split <;> omega
theorem turn_inj {n k i j : Nat} (hi : i < n) (hj : j < n) (e : turn n k i = turn n k j) : i = j := by
  unfold turn at e
  split at e <;> split at e <;> omega
theorem turn_onto {n k a : Nat} (hk : k < n) (ha : a < n) : ∃ j, j < n ∧ turn n k j = a := by
  by_cases c : k ≤ a
  · exact ⟨n - 1 - (a - k), by omega, by unfold turn; split <;> omega⟩
  · exact ⟨k - 1 - a, by omega, by unfold turn; split <;> omega⟩
theorem turn_mod {n k j : Nat} (hk : k < n) (hj : j < n) : ((n : Int) - 1 - j + k).tmod n = (turn n k j : Nat) := by
  unfold turn
  split
  · rename_i c
    rw [show (n : Int) - 1 - j + k = ((n - 1 - (j - k) : Nat) : Int) by omega, ← Int.ofNat_tmod, Nat.mod_eq_of_lt (by omega)]
  · rename_i c
    rw [show (n : Int) - 1 - j + k = ((n + (k - 1 - j) : Nat) : Int) by omega, ← Int.ofNat_tmod, Nat.add_mod_left, Nat.mod_eq_of_lt (by omega)]
/-- The valid ones among the first i, in an order. -/
def SetTo (L : List Bd) (p : Nat → Nat) (i : Nat) (m : List Bd) : Prop := m.length ≤ i ∧ ∀ x, x ∈ m ↔ ∃ j, j < i ∧ L[p j]? = some x ∧ chkB x = 0
theorem SetTo.next {L m : List Bd} {p : Nat → Nat} {i n : Nat} {b : Bd} (h : SetTo L p i m) (ha : Asc m) (hi : i < n) (hn : n ≤ 100) (hp : ∀ a c, a < n → c < n → p a = p c → a = c) (hd : ∀ (a c : Nat) (x y : Bd), L[a]? = some x → L[c]? = some y → x.k = y.k → a = c) (hb : L[p i]? = some b) : addE m b = chkB b ∧ SetTo L p (i + 1) (addL m b) := by
  by_cases c : chkB b = 0
  · have hl : look m b.k = none := look_none.2 fun y hy e => by
      obtain ⟨j, hj, hy', _⟩ := (h.2 y).1 hy
      have := hp j i (by omega) hi (hd _ _ _ _ hy' hb e)
      omega
    obtain ⟨e1, e2⟩ := add_is c hl (by have := h.1; omega)
    rw [e1, e2, c]
    refine ⟨rfl, by have := (put_len ha b).2; have := h.1; omega, fun x => ?_⟩
    rw [mem_put ha]
    constructor
    · rintro (rfl | ⟨hx, _⟩)
      · exact ⟨i, by omega, hb, c⟩
      · obtain ⟨j, hj, q⟩ := (h.2 x).1 hx
        exact ⟨j, by omega, q⟩
    · rintro ⟨j, hj, hx, hc⟩
      by_cases q : j = i
      · subst q; rw [hb] at hx; cases hx; exact .inl rfl
      · exact .inr ⟨(h.2 x).2 ⟨j, by omega, hx, hc⟩, fun e => q (hp j i (by omega) hi (hd _ _ _ _ hx hb e))⟩
  · obtain ⟨e1, e2⟩ := add_bad_is (m := m) (b := b) rfl c
    rw [e1, e2]
    refine ⟨rfl, by have := h.1; omega, fun x => (h.2 x).trans ⟨fun ⟨j, hj, q⟩ => ⟨j, by omega, q⟩, ?_⟩⟩
    rintro ⟨j, hj, hx, hc⟩
    by_cases q : j = i
    · subst q; rw [hb] at hx; cases hx; exact absurd hc c
    · exact ⟨j, by omega, hx, hc⟩
theorem SetTo.same {L m1 m2 : List Bd} {k n : Nat} (hk : k < n) (h1 : SetTo L id n m1) (h2 : SetTo L (turn n k) n m2) (a1 : Asc m1) (a2 : Asc m2) : m1 = m2 := by
  refine asc_ext a1 a2 fun key => look_perm a1.once a2.once (fun x => ?_) key
  rw [h1.2, h2.2]
  constructor
  · rintro ⟨j, hj, q⟩
    obtain ⟨i, hi, e⟩ := turn_onto hk hj
    exact ⟨i, hi, by rw [e]; exact q⟩
  · rintro ⟨j, _, q⟩
    exact ⟨turn n k j, turn_lt hk, q⟩

/-- Two stores of a call's own, apart from each other and from two blocks. -/
def Two (B : Nat) (w : World) (sb tb : Nat) (m1 m2 : List Bd) (p q : Nat) : Prop := B ≤ w.heap.size ∧ p < w.heap.size ∧ q < w.heap.size ∧ ∃ S U, StoreIs w sb S m1 ∧ StoreIs w tb U m2 ∧ (∀ k, S k → B ≤ k) ∧ (∀ k, U k → B ≤ k) ∧ (∀ k, S k → ¬ U k) ∧ ¬ S p ∧ ¬ U p ∧ ¬ S q ∧ ¬ U q
theorem StoreIs.lt {w : World} {sb : Nat} {S : Nat → Prop} {m : List Bd} (h : StoreIs w sb S m) : ∀ k, S k → k < w.heap.size := by
  obtain ⟨_, _, _, h⟩ := h
  exact h.lt
theorem Two.kep {B sb tb p q : Nat} {w w' : World} {m1 m2 : List Bd} (h : Two B w sb tb m1 m2 p q) (k : Kep w.heap.size w w') : Two B w' sb tb m1 m2 p q := by
  obtain ⟨hB, hp, hq, S, U, s, u, r⟩ := h
  exact ⟨Nat.le_trans hB k.size, Nat.lt_of_lt_of_le hp k.size, Nat.lt_of_lt_of_le hq k.size, S, U, s.kep k, u.kep k, r⟩
def Twin (B : Nat) (w : World) (sb tb : Nat) (m1 m2 : List Bd) : Prop := B ≤ w.heap.size ∧ ∃ S U, StoreIs w sb S m1 ∧ StoreIs w tb U m2 ∧ (∀ k, S k → B ≤ k) ∧ (∀ k, U k → B ≤ k) ∧ (∀ k, S k → ¬ U k)
theorem Two.twin {B sb tb p q : Nat} {w : World} {m1 m2 : List Bd} (h : Two B w sb tb m1 m2 p q) : Twin B w sb tb m1 m2 := by
  obtain ⟨hB, _, _, S, U, s, u, r1, r2, r3, _⟩ := h
  exact ⟨hB, S, U, s, u, r1, r2, r3⟩
/-- Two new boxes. -/
theorem Twin.boxes {B sb tb : Nat} {w : World} {m1 m2 : List Bd} (h : Twin B w sb tb m1 m2) (o o' : Obj) : Two B ((w.alloc o).alloc o') sb tb m1 m2 w.heap.size (w.heap.size + 1) := by
  obtain ⟨hB, S, U, s, u, r1, r2, r3⟩ := h
  have k := (Kep.made w o).next (Kep.made (w.alloc o) o')
  refine ⟨Nat.le_trans hB k.size, by simp; omega, by simp, S, U, s.kep k, u.kep k, r1, r2, r3, ?_, ?_, ?_, ?_⟩ <;> intro z <;> first | (have := s.lt _ z; omega) | (have := u.lt _ z; omega)
theorem Twin.first {B sb tb : Nat} {w : World} {m1 m2 : List Bd} (h : Twin B w sb tb m1 m2) : Fresh B w sb m1 := by
  obtain ⟨hB, S, U, s, u, r1, _⟩ := h
  exact ⟨hB, S, s, r1⟩
theorem Twin.second {B sb tb : Nat} {w : World} {m1 m2 : List Bd} (h : Twin B w sb tb m1 m2) : Fresh B w tb m2 := by
  obtain ⟨hB, S, U, s, u, r1, r2, _⟩ := h
  exact ⟨hB, U, u, r2⟩
def TDone (B : Nat) (w : World) (sb tb : Nat) (c : Int) (m1 m2 : List Bd) (p q : Nat) (e : Ending) (w' : World) : Prop := e = .returned (.int .i64 c) ∧ Two B w' sb tb m1 m2 p q ∧ Kep B w w' ∧ (∀ (i : Nat) (u : Value), w.cell? ⟨p, i, none⟩ = some u → w'.cell? ⟨p, i, none⟩ = some u) ∧ ∀ (i : Nat) (u : Value), w.cell? ⟨q, i, none⟩ = some u → w'.cell? ⟨q, i, none⟩ = some u
theorem tadd {B sb tb p q : Nat} {w : World} {m1 m2 : List Bd} (h : Two B w sb tb m1 m2 p q) (b : Bd) (hb : Fits b) : Calls Try.prog 9 #[Value.pointer (some ⟨sb, 0, none⟩), Value.agg #[Value.int .u32 b.k, Value.int .i32 b.r, Value.int .i32 b.ax, Value.int .i32 b.ay, Value.int .i32 b.m, Value.int .i32 b.o, Value.int .i32 b.px, Value.int .i32 b.py, Value.int .i32 b.vx, Value.int .i32 b.vy]] w (TDone B w sb tb (addE m1 b) (addL m1 b) m2 p q) := by
  obtain ⟨hB, hp, hq, S, U, s, u, r1, r2, r3, n1, n2, n3, n4⟩ := h
  refine (add_any s b hb).mono fun e w' ⟨e1, e2, e3⟩ => ⟨e1, ⟨Nat.le_trans hB e3.size, Nat.lt_of_lt_of_le hp e3.size, Nat.lt_of_lt_of_le hq e3.size, _, U, e2, u.apart e3 (fun k z z' => r3 k z' z), fun k z => ?_, r2, fun k z => ?_, ?_, n2, ?_, n4⟩, e3.kep hB r1, fun i v hv => (World.cell?_of_block (e3.block p hp n1)).trans hv, fun i v hv => (World.cell?_of_block (e3.block q hq n3)).trans hv⟩
  · rcases z with z | z
    · exact r1 k z
    · omega
  · rcases z with z | z
    · exact r3 k z
    · intro z'; have := u.lt _ z'; omega
  · rintro (z | z)
    · exact n1 z
    · omega
  · rintro (z | z)
    · exact n3 z
    · omega
theorem Two.swap {B sb tb p q : Nat} {w : World} {m1 m2 : List Bd} (h : Two B w sb tb m1 m2 p q) : Two B w tb sb m2 m1 p q := by
  obtain ⟨hB, hp, hq, S, U, s, u, r1, r2, r3, n1, n2, n3, n4⟩ := h
  exact ⟨hB, hp, hq, U, S, u, s, r2, r1, fun k z z' => r3 k z' z, n2, n1, n4, n3⟩
theorem tadd2 {B sb tb p q : Nat} {w : World} {m1 m2 : List Bd} (h : Two B w sb tb m1 m2 p q) (b : Bd) (hb : Fits b) : Calls Try.prog 9 #[Value.pointer (some ⟨tb, 0, none⟩), Value.agg #[Value.int .u32 b.k, Value.int .i32 b.r, Value.int .i32 b.ax, Value.int .i32 b.ay, Value.int .i32 b.m, Value.int .i32 b.o, Value.int .i32 b.px, Value.int .i32 b.py, Value.int .i32 b.vx, Value.int .i32 b.vy]] w (TDone B w sb tb (addE m2 b) m1 (addL m2 b) p q) :=
  (tadd h.swap b hb).mono fun _ _ ⟨e1, e2, e3, e4⟩ => ⟨e1, e2.swap, e3, e4⟩
theorem twin_new (w : World) : Twin w.heap.size ((w.alloc (.cells #[Value.slice none 0 0, Value.map none] 27)).alloc (.cells #[Value.slice none 0 0, Value.map none] 27)) w.heap.size (w.heap.size + 1) [] [] := by
  have hs : (w.alloc (.cells #[Value.slice none 0 0, Value.map none] 27)).heap.size = w.heap.size + 1 := by simp
  have s1 := (store_new w).kep (Kep.made (w.alloc (.cells #[Value.slice none 0 0, Value.map none] 27)) (.cells #[Value.slice none 0 0, Value.map none] 27))
  have s2 := store_new (w.alloc (.cells #[Value.slice none 0 0, Value.map none] 27))
  rw [hs] at s2
  exact ⟨by simp; omega, _, _, s1, s2, fun k z => by omega, fun k z => by omega, fun k z z' => by omega⟩
end Go.Proofs.Ytfkieieedljodaa
