import Derived.Test.YtlabeelbbkbkaaaJ00DivArith
import Derived.WalkKit
import Derived.Laws.AppendOwn
import Derived.Deep.AppendLies
import Derived.Below
import Derived.Deep.RegionHeld3
import Derived.OpenShut
import Derived.LoopN
import Derived.Deep.QuietTactic
import Derived.BigQuiet
import Derived.Deep.LoopGhost
import Derived.Deep.DeepCutAuto

/-! J01FxRef: FxRef, FxCon, Seq, WideShift, RefDivide, RefFloor, BodyRef, BodyIn, ImpMath. -/

section
/-
  The reference implementation of package fx: each function returns the same number as the program's.
-/
namespace Go.Proofs.Ytlabeelbbkbkaaa
open Go.RowKit Go.Lib

theorem reflim_any (n l : Int) (h : I64 n) (h0 : 0 ≤ l) (h3 : l < 9223372036854775808) (w : World) :
    Calls Try.prog 27 #[.int .i64 n, .int .i64 l] w fun e w' => e = .returned (.int .i64 (lim n l)) ∧ w = w' := by
  obtain ⟨h1, h2⟩ := h
  by_cases c : l < n
  · have e : lim n l = l := by unfold lim; omega
    rw [e]; clear e
    go_enter Try.func27, Try.ntmps27
    go_wp2
    go_ret
    exact ⟨rfl, rfl⟩
  · by_cases c2 : n < -l
    · have e : lim n l = -l := by unfold lim; omega
      rw [e]; clear e
      go_enter Try.func27, Try.ntmps27
      go_wp2
      go_ret
      exact ⟨rfl, rfl⟩
    · have e : lim n l = n := by unfold lim; omega
      rw [e]; clear e
      go_enter Try.func27, Try.ntmps27
      go_wp2
      go_ret
      exact ⟨rfl, rfl⟩

/-- The reference's floor, for a positive divisor. -/
theorem reffl_any (a b : Int) (ha : I64 a) (hb0 : 0 < b) (hb : b < 9223372036854775808) (w : World) :
    Calls Try.prog 30 #[.int .i64 a, .int .i64 b] w fun e w' => e = .returned (.int .i64 (a / b)) ∧ w = w' := by
  obtain ⟨h1, h2⟩ := ha
  have hbz : (b == 0) = false := by simp; omega
  have hd := Int.mul_tdiv_add_tmod a b
  have hl := Int.tmod_lt_of_pos a hb0
  have hg : -b < a.tmod b := Int.lt_tmod_of_pos a hb0
  have hn0 : 0 ≤ a → 0 ≤ a.tmod b := fun h => Int.tmod_nonneg b h
  have hn1 : a ≤ 0 → a.tmod b ≤ 0 := fun h => by
    have := Int.tmod_nonneg b (show 0 ≤ -a by omega)
    rw [Int.neg_tmod] at this; omega
  have hq0 : 0 ≤ a → 0 ≤ a.tdiv b := fun h => Int.tdiv_nonneg h (by omega)
  have hq1 : a ≤ 0 → a.tdiv b ≤ 0 := fun h => by
    have := Int.tdiv_nonneg (show 0 ≤ -a by omega) (show 0 ≤ b by omega)
    rw [Int.neg_tdiv] at this; omega
  obtain ⟨q, hq⟩ : ∃ q, q = a.tdiv b := ⟨_, rfl⟩
  obtain ⟨r, hr⟩ : ∃ r, r = a.tmod b := ⟨_, rfl⟩
  rw [← hq, ← hr] at hd
  rw [← hr] at hl hg hn0 hn1
  rw [← hq] at hq0 hq1
  have hbq : ∀ x : Int, 0 ≤ x → x ≤ b * x := fun x hx => by
    have := Int.mul_le_mul_of_nonneg_right (show 1 ≤ b by omega) hx
    omega
  have q0 : -9223372036854775808 ≤ q ∧ q < 9223372036854775808 := by
    by_cases c : 0 ≤ a
    · have := hq0 c; have := hbq q this; have := hn0 c; omega
    · have h := hq1 (by omega); have := hbq (-q) (by omega); rw [Int.mul_neg] at this; have := hn1 (by omega); omega
  have W1 : IntKind.i64.wrap (a.tdiv b) = q := by rw [← hq, IntKind.wrap_i64]; omega
  have W2 : IntKind.i64.wrap (a.tmod b) = r := by rw [← hr, IntKind.wrap_i64]; omega
  have W3 : wrap64 (a.tdiv b) = q := by rw [← hq]; unfold wrap64; omega
  have W4 : wrap64 (a.tmod b) = r := by rw [← hr]; unfold wrap64; omega
  have hq' := hq.symm; have hr' := hr.symm
  clear hq hr hbq hn0 hn1 hq0 hq1
  by_cases c : r < 0
  · have e : a / b = q - 1 := by
      rw [Int.ediv_eq_iff_of_pos hb0, Int.sub_mul, Int.mul_comm q b]; omega
    have q2 : -9223372036854775808 ≤ q - 1 := by
      by_cases c2 : b = 1
      · subst c2; omega
      · have hbq2 : ∀ x : Int, 0 ≤ x → 2 * x ≤ b * x := fun x hx => Int.mul_le_mul_of_nonneg_right (show 2 ≤ b by omega) hx
        by_cases c3 : 0 ≤ q
        · omega
        · have := hbq2 (-q) (by omega); rw [Int.mul_neg b q] at this; omega
    rw [e]
    clear e hd
    go_enter Try.func30, Try.ntmps30
    go_wp2
    go_ret
    exact ⟨rfl, rfl⟩
  · have e : a / b = q := by
      rw [Int.ediv_eq_iff_of_pos hb0, Int.mul_comm q b]; omega
    rw [e]
    clear e hd
    go_enter Try.func30, Try.ntmps30
    go_wp2
    go_ret
    exact ⟨rfl, rfl⟩

/-- What Div returns: the floor, saturated, and the error. -/
def dq (a b : Int) : Int := if b = 0 then 0 else sat (fl (a * 65536) b)
def de (b : Int) : Int := if b = 0 then 2 else 0

theorem fl_bd (n b : Int) (hb : b ≠ 0) (h1 : -140737488355328 ≤ n) (h2 : n ≤ 140737488355328) : -140737488355328 ≤ fl n b ∧ fl n b ≤ 140737488355328 := by
  have k : ∀ m c : Int, 0 < c → -140737488355328 ≤ m → m ≤ 140737488355328 → -140737488355328 ≤ m / c ∧ m / c ≤ 140737488355328 := fun m c hc a b => by
    constructor
    · rw [Int.le_ediv_iff_mul_le hc]
      have := Int.mul_le_mul_of_nonneg_left (show 1 ≤ c by omega) (show (0 : Int) ≤ 140737488355328 by decide)
      omega
    · have := Int.ediv_le_ediv hc b
      refine Int.le_trans this ?_
      exact Int.ediv_le_self c (by decide)
  unfold fl
  split
  · exact k (-n) (-b) (by omega) (by omega) (by omega)
  · exact k n b (by omega) h1 h2

theorem div_val (a b : Int) (ha : I32 a) : sat (mdv a 65536 b) = dq a b ∧ mde a 65536 b = de b := by
  obtain ⟨h1, h2⟩ := ha
  unfold mdv mde dq de
  by_cases h0 : b = 0
  · subst h0; rw [if_pos rfl, if_pos rfl, if_pos rfl, if_pos rfl]; exact ⟨by decide, rfl⟩
  · have hf := fl_bd (a * 65536) b h0 (by omega) (by omega)
    have hi : I64 (fl (a * 65536) b) := ⟨by omega, by omega⟩
    rw [if_neg h0, if_neg h0, if_neg h0, if_neg h0, rv_in hi, re_in hi]
    exact ⟨rfl, rfl⟩

end Go.Proofs.Ytlabeelbbkbkaaa
end

section
/-
  Package fx: the contracts of its functions, by named results.
-/
namespace Go.Proofs.Ytlabeelbbkbkaaa
open Go.RowKit Go.Lib

abbrev Lim2 (n l q : Int) : Prop := ∀ w, Calls Try.prog 35 #[.int .i64 n, .int .i64 l] w fun e' w' => e' = .returned (.tuple #[.int .i64 q, .bool (q != n)]) ∧ w = w'

theorem lim2 {n l q : Int} (hn : I64 n) (h0 : 0 ≤ l) (h1 : l < 9223372036854775808) (h : lim n l = q) : Lim2 n l q := fun w => by rw [← h]; exact limit_any n l hn h0 h1 w
end Go.Proofs.Ytlabeelbbkbkaaa
end

section
/-
  Slices that read as lists, for elements of any kind; a slice of the call's own appended to (no program).
-/
namespace Go.Proofs.Ytlabeelbbkbkaaa
open Go.RowKit Go.Lib

/-- What yields in every world that meets S is taken. -/
theorem sT {P : Program} {ops : Array Oper} {Q : Exit → Act → World → Prop} {md : Region.Mode} {S : World → Prop} (i : Nat) {oi : Oper} {v : Value} {fuel : Nat} {listed : Array Bool} {a : Act} {w : World} (hS : S w)
    (h : wpAnyH P md ops Q S fuel (listed.setIfInBounds i true) (a.put oi.dst v) w) (hi : ops[i]? = some oi := by (simp only [List.getElem?_toArray, List.getElem?_cons_succ, List.getElem?_cons_zero]; rfl))
    (hv : ∀ w, S w → (execOp a.eval oi).run P w = .ok (.value v) w := by (intro w hSw; (try dsimp only at hSw); go_simp; (try with_reducible rfl)))
    (hw : Region.wanted oi (yielded ops a.tmps) = true := by rfl) (hs : Region.noSelect ops = true := by kernel_rfl) (hf : Region.free md ops listed i = true := by kernel_rfl) (hr : (Region.ready md ops listed).contains i = true := by kernel_rfl)
    (hQ : ∀ c a w, Q (.panic c) (a.put oi.dst v) w → Q (.panic c) a w := by exact fun _ _ _ h => h) : wpAnyH P md ops Q S (fuel + 1) listed a w :=
  wpAnyH_take hi hs hf hr hQ (Or.inl ⟨hw, hv⟩) hS h
/-- The same; the slots are written out behind it. -/
theorem sN {P : Program} {ops : Array Oper} {Q : Exit → Act → World → Prop} {md : Region.Mode} {S : World → Prop} (i : Nat) {oi : Oper} {v : Value} {fuel : Nat} {listed : Array Bool} {a a' : Act} {w : World} (hS : S w)
    (h : wpAnyH P md ops Q S fuel (listed.setIfInBounds i true) a' w) (hi : ops[i]? = some oi := by (simp only [List.getElem?_toArray, List.getElem?_cons_succ, List.getElem?_cons_zero]; rfl))
    (hv : ∀ w, S w → (execOp a.eval oi).run P w = .ok (.value v) w := by (intro w hSw; (try dsimp only at hSw); go_simp; (try with_reducible rfl)))
    (ha : a.put oi.dst v = a' := by ((try simp only [Act.put, List.setIfInBounds_toArray, List.set_cons_zero, List.set_cons_succ]); rfl))
    (hw : Region.wanted oi (yielded ops a.tmps) = true := by rfl) (hs : Region.noSelect ops = true := by kernel_rfl) (hf : Region.free md ops listed i = true := by kernel_rfl) (hr : (Region.ready md ops listed).contains i = true := by kernel_rfl)
    (hQ : ∀ c a w, Q (.panic c) (a.put oi.dst v) w → Q (.panic c) a w := by exact fun _ _ _ h => h) : wpAnyH P md ops Q S (fuel + 1) listed a w :=
  wpAnyH_take hi hs hf hr hQ (Or.inl ⟨hw, hv⟩) hS (by rw [ha]; exact h)
/-- What isn't wanted is passed by. -/
theorem sU {P : Program} {ops : Array Oper} {Q : Exit → Act → World → Prop} {md : Region.Mode} {S : World → Prop} (i : Nat) {oi : Oper} {fuel : Nat} {listed : Array Bool} {a : Act} {w : World} (hS : S w)
    (h : wpAnyH P md ops Q S fuel (listed.setIfInBounds i true) (a.put oi.dst undef) w) (hi : ops[i]? = some oi := by (simp only [List.getElem?_toArray, List.getElem?_cons_succ, List.getElem?_cons_zero]; rfl))
    (hw : Region.wanted oi (yielded ops a.tmps) = false := by rfl) (hs : Region.noSelect ops = true := by kernel_rfl) (hf : Region.free md ops listed i = true := by kernel_rfl) (hr : (Region.ready md ops listed).contains i = true := by kernel_rfl)
    (hQ : ∀ c a w, Q (.panic c) (a.put oi.dst undef) w → Q (.panic c) a w := by exact fun _ _ _ h => h) : wpAnyH P md ops Q S (fuel + 1) listed a w :=
  wpAnyH_take hi hs hf hr hQ (Or.inr ⟨hw, rfl⟩) hS h
/-- The same; the slots are written out behind it. -/
theorem sM {P : Program} {ops : Array Oper} {Q : Exit → Act → World → Prop} {md : Region.Mode} {S : World → Prop} (i : Nat) {oi : Oper} {fuel : Nat} {listed : Array Bool} {a a' : Act} {w : World} (hS : S w)
    (h : wpAnyH P md ops Q S fuel (listed.setIfInBounds i true) a' w) (hi : ops[i]? = some oi := by (simp only [List.getElem?_toArray, List.getElem?_cons_succ, List.getElem?_cons_zero]; rfl))
    (ha : a.put oi.dst undef = a' := by ((try simp only [Act.put, List.setIfInBounds_toArray, List.set_cons_zero, List.set_cons_succ]); rfl))
    (hw : Region.wanted oi (yielded ops a.tmps) = false := by rfl) (hs : Region.noSelect ops = true := by kernel_rfl) (hf : Region.free md ops listed i = true := by kernel_rfl) (hr : (Region.ready md ops listed).contains i = true := by kernel_rfl)
    (hQ : ∀ c a w, Q (.panic c) (a.put oi.dst undef) w → Q (.panic c) a w := by exact fun _ _ _ h => h) : wpAnyH P md ops Q S (fuel + 1) listed a w :=
  wpAnyH_take hi hs hf hr hQ (Or.inr ⟨hw, rfl⟩) hS (by rw [ha]; exact h)
/-- The one operation that may come up is carried out. -/
theorem sC {P : Program} {ops : Array Oper} {Q : Exit → Act → World → Prop} {md : Region.Mode} {S : World → Prop} (i : Nat) {o : Oper} {fuel : Nat} {listed : Array Bool} {a : Act} {w : World}
    (h : ∀ K' : Act → World → Prop, Shut (∀ a w, S w → (S w → wpAnyH P md ops Q S fuel (listed.setIfInBounds i true) a w) → K' a w) → if Region.wanted o (yielded ops a.tmps) = true then Oper.wp P o a w K' Q else K' (a.put o.dst undef) w)
    (ho : ops[i]? = some o := by (simp only [List.getElem?_toArray, List.getElem?_cons_succ, List.getElem?_cons_zero]; rfl)) (hr : Region.ready md ops listed = [i] := by kernel_rfl) : wpAnyH P md ops Q S (fuel + 1) listed a w :=
  wpAnyH_ready hr (by simp) (AllReadyH.cons ho h AllReadyH.nil)
/-- The region's end. -/
theorem sE {P : Program} {ops : Array Oper} {Q : Act → World → Prop} {N : Exit → Act → World → Prop} {md : Region.Mode} {S : World → Prop} {listed : Array Bool} {a : Act} {w : World} {fuel : Nat} (h : Q a w) (hn : Q a w → N .normal a w := by exact fun h => NoPanic.normal h) (hr : Region.ready md ops listed = [] := by kernel_rfl) : wpAnyH P md ops N S fuel listed a w := wpAnyH_done hr (hn h) _
/-- A step of a region by hand: what yields in every world that meets S. -/
theorem rtk {P : Program} {ops : Array Oper} {Q : Exit → Act → World → Prop} {md : Region.Mode} {S : World → Prop} (i : Nat) {oi : Oper} {v : Value} {fuel : Nat} {listed : Array Bool} {a : Act} {w : World} (hi : ops[i]? = some oi)
    (hv : ∀ w, S w → (execOp a.eval oi).run P w = .ok (.value v) w) (hS : S w) (h : wpAnyH P md ops Q S fuel (listed.setIfInBounds i true) (a.put oi.dst v) w)
    (hw : Region.wanted oi (yielded ops a.tmps) = true := by rfl) (hs : Region.noSelect ops = true := by kernel_rfl) (hf : Region.free md ops listed i = true := by kernel_rfl) (hr : (Region.ready md ops listed).contains i = true := by kernel_rfl)
    (hQ : ∀ c a w, Q (.panic c) (a.put oi.dst v) w → Q (.panic c) a w := by exact fun _ _ _ h => h) : wpAnyH P md ops Q S (fuel + 1) listed a w :=
  wpAnyH_take hi hs hf hr hQ (Or.inl ⟨hw, hv⟩) hS h
/-- The same, of a step that is not wanted. -/
theorem rtu {P : Program} {ops : Array Oper} {Q : Exit → Act → World → Prop} {md : Region.Mode} {S : World → Prop} (i : Nat) {oi : Oper} {fuel : Nat} {listed : Array Bool} {a : Act} {w : World} (hi : ops[i]? = some oi)
    (hS : S w) (h : wpAnyH P md ops Q S fuel (listed.setIfInBounds i true) (a.put oi.dst undef) w)
    (hw : Region.wanted oi (yielded ops a.tmps) = false := by rfl) (hs : Region.noSelect ops = true := by kernel_rfl) (hf : Region.free md ops listed i = true := by kernel_rfl) (hr : (Region.ready md ops listed).contains i = true := by kernel_rfl)
    (hQ : ∀ c a w, Q (.panic c) (a.put oi.dst undef) w → Q (.panic c) a w := by exact fun _ _ _ h => h) : wpAnyH P md ops Q S (fuel + 1) listed a w :=
  wpAnyH_take hi hs hf hr hQ (Or.inr ⟨hw, rfl⟩) hS h
/-- The value v is a slice of the elements of L: the cells of x read as f x. -/
def Sq {α : Type} (f : α → List Value) (n : Nat) (w : World) (v : Value) (L : List α) : Prop :=
  ∃ base cap, v = .slice base L.length cap ∧ ∀ (k : Nat) (x : α), L[k]? = some x → ∃ g off, base = some ⟨g, off, none⟩ ∧ ∀ (i : Nat) (u : Value), (f x)[i]? = some u → w.cell? ⟨g, off + k * n + i, none⟩ = some u
theorem Sq.kep {α : Type} {f : α → List Value} {n : Nat} {w w' : World} {v : Value} {L : List α} (h : Sq f n w v L) (g : Kep w.heap.size w w') : Sq f n w' v L := by
  obtain ⟨base, cap, rfl, hc⟩ := h
  refine ⟨base, cap, rfl, fun k x hx => ?_⟩
  obtain ⟨b, off, e, hi⟩ := hc k x hx
  exact ⟨b, off, e, fun i u hu => g.all (hi i u hu)⟩
theorem Sq.nil {α : Type} {f : α → List Value} {n : Nat} {w : World} {base : Option Addr} {cap : Nat} : Sq f n w (.slice base 0 cap) ([] : List α) := ⟨base, cap, rfl, fun k x hx => by simp at hx⟩
theorem Sq.shape {α : Type} {f : α → List Value} {n : Nat} {w : World} {v : Value} {L : List α} (h : Sq f n w v L) : ∃ base cap, v = .slice base L.length cap := by
  obtain ⟨b, c, e, _⟩ := h
  exact ⟨b, c, e⟩
theorem cat_get {α : Type} {f : α → List Value} {n : Nat} (hf : ∀ x, (f x).length = n) : ∀ (s : List α) (k : Nat) (b : α), s[k]? = some b → ∀ i, i < n → (s.flatMap f)[k * n + i]? = (f b)[i]?
  | [], _, _, h, _, _ => by simp at h
  | x :: s, 0, b, h, i, hi => by
    simp at h
    subst h
    simp only [List.flatMap_cons]
    rw [List.getElem?_append_left (by rw [hf]; omega)]
    simp
  | x :: s, k + 1, b, h, i, hi => by
    have e := cat_get hf s k b (by simpa using h) i hi
    simp only [List.flatMap_cons]
    rw [List.getElem?_append_right (by rw [hf, Nat.succ_mul]; omega), hf, show (k + 1) * n + i - n = k * n + i by rw [Nat.succ_mul]; omega]
    exact e
theorem cat_len {α : Type} {f : α → List Value} {n : Nat} (hf : ∀ x, (f x).length = n) : ∀ (s : List α), (s.flatMap f).length = s.length * n
  | [] => by simp
  | x :: s => by rw [List.flatMap_cons, List.length_append, hf, cat_len hf s, List.length_cons, Nat.succ_mul]; omega
theorem own_sq {α : Type} {f : α → List Value} {n : Nat} (hf : ∀ x, (f x).length = n) {w : World} {B : Nat} {t : TypeId} {v : Value} {s : List α} (h : w.ownsRow B t n v s.length (s.flatMap f)) : Sq f n w v s := by
  obtain ⟨_, ⟨rfl, h0⟩ | ⟨g, cap, cur, rfl, _, hg, hn, _, hs, hc⟩⟩ := h
  · have e := List.length_eq_zero_iff.1 h0
    subst e
    exact Sq.nil
  · refine ⟨_, cap, rfl, fun k b hb => ⟨g, 0, rfl, fun i u hu => ?_⟩⟩
    have hk : k < s.length := (List.getElem?_eq_some_iff.1 hb).1
    have hi : i < n := by have := (List.getElem?_eq_some_iff.1 hu).1; rwa [hf] at this
    rw [← cat_get hf s k b hb i hi, ← hc] at hu
    have hlt : k * n + i < s.length * n := by
      have := Nat.mul_le_mul_right n (Nat.succ_le_of_lt hk)
      rw [Nat.succ_mul] at this
      omega
    rw [List.getElem?_take_of_lt hlt] at hu
    simp only [World.cell?, hg, Nat.zero_add]
    simpa using hu
/-- Where what the slice v lies in is new. -/
theorem own_blk {w : World} {B : Nat} {t : TypeId} {size n : Nat} {v : Value} {xs : List Value} (h : w.ownsRow B t size v n xs) : ∀ g, v.ownBlock = some g → B ≤ g ∧ g < w.heap.size := h.lt
/-- An element appended to a slice of the call's own. -/
theorem wpList_app {α : Type} (f : α → List Value) (n : Nat) (hf : ∀ x, (f x).length = n) (h1 : ∀ x, ∀ u ∈ f x, u.oneCell' = true) {P : Program} {ops : Array Oper} {rest : List Oper} {o : Oper} {a : Act} {Q : Exit → Act → World → Prop} (hgd : o.guard = none) (s x : Operand) (t : TypeId)
    (ho : o.op = .call { callee := .builtin .append, args := #[s, x], argTypes := #[t, t] }) (e : TypeId) (z : Value) (bytes : Nat) (ht : P.underlying t = some (.slice e))
    (hi : (P.info? e).map (fun i => (i.zero, i.size, i.bytes)) = some (some z, n, bytes)) (hzs : z.cells.size = n) (hn : 0 < n)
    (B : Nat) (W : World) (v : Value) (L : List α) (y : α) (hs : a.eval s = v) (hown : W.ownsRow B e n v L.length (L.flatMap f)) (b : Nat) (hb : b = W.heap.size) (hx : a.eval x = .slice (some ⟨b, 0, none⟩) 1 1)
    (cs : Array Value) (hcs : cs.toList = f y) (hl : L.length + 1 ≤ maxLen) (hby : (L.length + 1) * bytes ≤ 140737488355328) (hB : B ≤ W.heap.size)
    (h : ∀ v' w', w'.ownsRow B e n v' (L ++ [y]).length ((L ++ [y]).flatMap f) → Kep B W w' → wpList P ops Q rest (a.put o.dst v') w') : wpList P ops Q (o :: rest) a (W.alloc (.cells cs e)) := by
  subst hb
  obtain ⟨i0, hi0, hz0, hz1, hz2⟩ := info_parts hi
  refine wpList_append_own _ hgd s x t ho B e i0 z n bytes ht hi0 hz0 hz1 hz2 hzs hn v L.length (L.flatMap f) hs (hown.alloc _) ⟨_, 0, none⟩ 1 1 (f y) hx (by rw [hf]; omega) (fun j u hu => ?_) (h1 y) hl hby (by simp; omega) fun v' w' h2 h3 _ => h v' w' ?_ ?_
  · have q : ((⟨W.heap.size, 0, none⟩ : Addr).add j) = ⟨W.heap.size, j, none⟩ := by simp [Addr.add]; exact Eq.symm
    rw [q, World.cell?_alloc_at _ _ _ _ rfl]
    rw [← hcs] at hu
    simpa using hu
  · simpa using h2
  · exact ((Kep.refl B W).alloc hB _).row h3 (by simp; omega) (fun k q => (hown.lt k q).1)
/-- As wpList_app, at a step of a region that draws its order. -/
theorem step_app {α : Type} (f : α → List Value) (n : Nat) (hf : ∀ x, (f x).length = n) (h1 : ∀ x, ∀ u ∈ f x, u.oneCell' = true) {P : Program} {ops : Array Oper} {o : Oper} {a : Act} {K : Act → World → Prop} {Q : Exit → Act → World → Prop} {E : Prop} (hgd : o.guard = none) (s x : Operand) (t : TypeId)
    (ho : o.op = .call { callee := .builtin .append, args := #[s, x], argTypes := #[t, t] }) (e : TypeId) (z : Value) (bytes : Nat) (ht : P.underlying t = some (.slice e))
    (hi : (P.info? e).map (fun i => (i.zero, i.size, i.bytes)) = some (some z, n, bytes)) (hzs : z.cells.size = n) (hn : 0 < n)
    (B : Nat) (W : World) (v : Value) (L : List α) (y : α) (hs : a.eval s = v) (hown : W.ownsRow B e n v L.length (L.flatMap f)) (b : Nat) (hb : b = W.heap.size) (hx : a.eval x = .slice (some ⟨b, 0, none⟩) 1 1)
    (cs : Array Value) (hcs : cs.toList = f y) (hl : L.length + 1 ≤ maxLen) (hby : (L.length + 1) * bytes ≤ 140737488355328) (hB : B ≤ W.heap.size)
    (h : ∀ v' w', w'.ownsRow B e n v' (L ++ [y]).length ((L ++ [y]).flatMap f) → Kep B (W.alloc (.cells cs e)) w' → K (a.put o.dst v') w') : if Region.wanted o (yielded ops a.tmps) = true then Oper.wp P o a (W.alloc (.cells cs e)) K Q else E := by
  subst hb
  obtain ⟨i0, hi0, hz0, hz1, hz2⟩ := info_parts hi
  refine step_append_lies _ hgd s x t ho B e i0 z n bytes ht hi0 hz0 hz1 hz2 hzs hn v L.length (L.flatMap f) hs (hown.alloc _) ⟨_, 0, none⟩ 1 1 (f y) hx (by rw [hf]; omega) (fun j u hu => ?_) (h1 y) (by decide) hl hby (by simp; omega) _ rfl fun g cap w' h2 h3 _ _ => h _ w' ?_ ?_
  · have q : ((⟨W.heap.size, 0, none⟩ : Addr).add j) = ⟨W.heap.size, j, none⟩ := by simp [Addr.add]; exact Eq.symm
    rw [q, World.cell?_alloc_at _ _ _ _ rfl]
    rw [← hcs] at hu
    simpa using hu
  · simpa using h2
  · exact (Kep.refl B _).row h3 (by simp; omega) (fun k q => (hown.lt k q).1)
theorem own_drewN {w : World} {base : Nat} {e : TypeId} {size : Nat} {v : Value} {m n : Nat} {xs : List Value} (h : w.ownsRow base e size v n xs) : (w.drewN m).ownsRow base e size v n xs := h
theorem kep_drewN {B : Nat} {a w : World} (h : Kep B a w) (m : Nat) : Kep B a (w.drewN m) := ⟨h.os, h.output, h.size, h.block⟩
/-- What a slice owns it owns where the blocks from B on are as they were. -/
theorem own_kep {w w' : World} {B B' : Nat} {e : TypeId} {size n : Nat} {v : Value} {xs : List Value} (h : w.ownsRow B e size v n xs) (k : Kep B' w w') (hb : w.heap.size ≤ B') : w'.ownsRow B e size v n xs := by
  refine ⟨h.1, ?_⟩
  rcases h.2 with hn | ⟨g, cap, cur, rfl, hg, hgg, rest⟩
  · exact .inl hn
  · refine .inr ⟨g, cap, cur, rfl, hg, ?_, rest⟩
    have hlt : g < w.heap.size := (Array.getElem?_eq_some_iff.1 hgg).1
    rw [k.block g (by omega)]
    exact hgg
theorem kep_next {a b c : World} (h : Kep a.heap.size a b) (k : Kep b.heap.size b c) : Kep a.heap.size a c := h.trans (k.mono h.size)
theorem kep_more {a b : World} (h : Kep a.heap.size a b) (o : Obj) : Kep a.heap.size a (b.alloc o) := h.alloc h.size o
theorem kep_drew {a b : World} (h : Kep a.heap.size a b) : Kep a.heap.size a b.drew := h.drew
theorem wrap_ib {n q : Int} (h : wrap32 n = q) : IntKind.i32.wrap n = q := by rw [← h, IntKind.wrap_i32]; unfold wrap32; rfl
/-- A contract that says Grown says Kep. -/
theorem kep_calls {P : Program} {f : Nat} {args : Array Value} {V : Ending} {w : World} (h : Calls P f args w fun e w' => e = V ∧ Grown w w') : Calls P f args w fun e w' => e = V ∧ Kep w.heap.size w w' := h.mono fun _ _ h => ⟨h.1, Kep.of_grown h.2⟩
/-- A slice laid down at once. -/
theorem sq_new {α : Type} {f : α → List Value} {n : Nat} (hf : ∀ x, (f x).length = n) (W : World) (L : List α) (cs : Array Value) (hcs : cs.toList = L.flatMap f) (t : TypeId) (b : Nat) (hb : b = W.heap.size) (m cap : Nat) (hm : m = L.length) : Sq f n (W.alloc (.cells cs t)) (.slice (some ⟨b, 0, none⟩) m cap) L := by
  subst hb hm
  refine ⟨_, cap, rfl, fun k x hx => ⟨_, 0, rfl, fun i u hu => ?_⟩⟩
  have hi : i < n := by have := (List.getElem?_eq_some_iff.1 hu).1; rwa [hf] at this
  rw [← cat_get hf L k x hx i hi, ← hcs] at hu
  rw [World.cell?_alloc_at _ _ _ _ rfl, Nat.zero_add]
  simpa using hu
/-- As Kep, with the tape: what a call that an iterator makes must say. -/
abbrev Bel (w w' : World) : Prop := Below w.heap.size w w'
theorem bel_next {a b c : World} (h : Bel a b) (k : Bel b c) : Bel a c := h.trans (k.mono h.size)
theorem bel_more {a b : World} (h : Bel a b) (o : Obj) : Bel a (b.alloc o) := h.alloc h.size o
theorem bel_drew {a b : World} (h : Bel a b) : Bel a b.drew := h.drew
theorem bel_set {a b : World} (h : Bel a b) {p : Addr} (hp : a.heap.size ≤ p.block) (u : Value) : Bel a (b.setCell p u) := h.setCell hp u
theorem bel_all {w w' : World} (h : Bel w w') {a : Addr} {v : Value} (hv : w.cell? a = some v) : w'.cell? a = some v := (h.cell (p := a) (World.block_lt_of_cell? _ _ hv)).trans hv
theorem bel_grown {w w' : World} (h : Bel w w') : w.grownBy w' none := ⟨h.os, h.tape, h.output, h.size, fun k hk _ => h.block k hk⟩
/-- A contract that says Bel says Kep. -/
theorem bel_calls {P : Program} {f : Nat} {args : Array Value} {V : Ending} {w : World} (h : Calls P f args w fun e w' => e = V ∧ Bel w w') : Calls P f args w fun e w' => e = V ∧ Kep w.heap.size w w' := h.mono fun _ _ h => ⟨h.1, Kep.of_below h.2⟩
theorem bel_frozen {W w1 : World} (g : Bel W w1) {b o : Nat} (h : W.frozen? ⟨b, o, none⟩ = false) (hb : b < W.heap.size) : w1.frozen? ⟨b, o, none⟩ = false := (World.frozen?_of_block (w := W) (g.block b hb)).trans h
theorem some_lt {w : World} {a : Addr} (h : (w.cell? a).isSome = true) : a.block < w.heap.size := by
  obtain ⟨u, hu⟩ := Option.isSome_iff_exists.1 h
  exact World.block_lt_of_cell? _ _ hu
theorem kep_some {w w' : World} (g : Kep w.heap.size w w') {a : Addr} (h : (w.cell? a).isSome = true) : (w'.cell? a).isSome = true := by rw [g.cell (some_lt h)]; exact h
theorem kep_froz {w w' : World} (g : Kep w.heap.size w w') {a : Addr} (s : (w.cell? a).isSome = true) (h : w.frozen? a = false) : w'.frozen? a = false := by rw [g.frozen (some_lt s)]; exact h
theorem bel_some {w w' : World} (g : Bel w w') {a : Addr} (h : (w.cell? a).isSome = true) : (w'.cell? a).isSome = true := kep_some (Kep.of_below g) h
theorem bel_froz {w w' : World} (g : Bel w w') {a : Addr} (s : (w.cell? a).isSome = true) (h : w.frozen? a = false) : w'.frozen? a = false := kep_froz (Kep.of_below g) s h
theorem kep_set {a b : World} (h : Kep a.heap.size a b) {p : Addr} (hp : a.heap.size ≤ p.block) (u : Value) : Kep a.heap.size a (b.setCell p u) := h.setCell hp u
theorem sset_some {W : World} (a b : Addr) (v : Value) (h : (W.cell? b).isSome = true) : ((W.setCell a v).cell? b).isSome = true := by
  by_cases c : a = b
  · subst c; rw [World.cell?_setCell_same' _ _ _ h]; rfl
  · rw [World.cell?_setCell_other (h := c)]; exact h
theorem sset_far {W : World} {p a : Addr} {v u : Value} (h : W.cell? a = some u) (c : p.block ≠ a.block) : (W.setCell p v).cell? a = some u := by
  rw [World.cell?_setCell_far _ _ _ _ c]; exact h
theorem sset_froz {W : World} {p a : Addr} {v : Value} (h : W.frozen? a = false) : (W.setCell p v).frozen? a = false := by
  rw [World.frozen?_setCell]; exact h
/-- A slice is no longer than its room. -/
def Rmy (v : Value) : Prop := ∀ b n c, v = .slice b n c → n ≤ c
theorem own_rmy {w : World} {B : Nat} {t : TypeId} {size n : Nat} {v : Value} {xs : List Value} (h : w.ownsRow B t size v n xs) : Rmy v := fun b m c e => by
  rcases h.2 with ⟨rfl, _⟩ | ⟨g, cap, cur, rfl, _, _, hc, _⟩
  · injection e with _ e1 e2
    omega
  · injection e with _ e1 e2
    omega
theorem add_off (g off j : Nat) : (⟨g, off, none⟩ : Addr).add j = ⟨g, off + j, none⟩ := by unfold Addr.add; split <;> simp_all
/-- The cells of a slice, one after another. -/
theorem Sq.cells {α : Type} {f : α → List Value} {n : Nat} (hf : ∀ x, (f x).length = n) {w : World} {a : Addr} {m cap : Nat} {D : List α} (h : Sq f n w (.slice (some a) m cap) D) : ∀ (j : Nat) (u : Value), (D.flatMap f)[j]? = some u → w.cell? (a.add j) = some u := fun j u hu => by
  obtain ⟨base, c, e, hc⟩ := h
  injection e with e1 e2 e3
  have hj : j < (D.flatMap f).length := (List.getElem?_eq_some_iff.1 hu).1
  rw [cat_len hf] at hj
  have hn : 0 < n := by
    rcases Nat.eq_zero_or_pos n with rfl | h
    · simp at hj
    · exact h
  have hk : j / n < D.length := (Nat.div_lt_iff_lt_mul hn).2 hj
  obtain ⟨g, off, e4, hi⟩ := hc (j / n) _ (List.getElem?_eq_getElem hk)
  rw [e4] at e1
  injection e1 with e1
  have hd : j / n * n + j % n = j := by rw [Nat.mul_comm]; exact Nat.div_add_mod j n
  have q := cat_get hf D (j / n) _ (List.getElem?_eq_getElem hk) (j % n) (Nat.mod_lt _ hn)
  rw [hd, hu] at q
  have r := hi (j % n) u q.symm
  rw [e1, add_off]
  rw [show off + j / n * n + j % n = off + j by omega] at r
  exact r
/-- A whole list appended to a slice of the call's own. -/
theorem wpList_appAll {α : Type} (f : α → List Value) (n : Nat) (hf : ∀ x, (f x).length = n) (h1 : ∀ x, ∀ u ∈ f x, u.oneCell' = true) {P : Program} {ops : Array Oper} {rest : List Oper} {o : Oper} {a : Act} {Q : Exit → Act → World → Prop} (hgd : o.guard = none) (s x : Operand) (t : TypeId)
    (ho : o.op = .call { callee := .builtin .append, args := #[s, x], argTypes := #[t, t] }) (e : TypeId) (z : Value) (bytes : Nat) (ht : P.underlying t = some (.slice e))
    (hi : (P.info? e).map (fun i => (i.zero, i.size, i.bytes)) = some (some z, n, bytes)) (hzs : z.cells.size = n) (hn : 0 < n)
    (B : Nat) (W : World) (v vx : Value) (L D : List α) (hs : a.eval s = v) (hown : W.ownsRow B e n v L.length (L.flatMap f)) (hx : a.eval x = vx) (hq : Sq f n W vx D) (hl : L.length + D.length ≤ maxLen) (hby : (L.length + D.length) * bytes ≤ 140737488355328) (hB : B ≤ W.heap.size)
    (h : ∀ v' w', w'.ownsRow B e n v' (L ++ D).length ((L ++ D).flatMap f) → Kep B W w' → wpList P ops Q rest (a.put o.dst v') w') : wpList P ops Q (o :: rest) a W := by
  obtain ⟨i0, hi0, hz0, hz1, hz2⟩ := info_parts hi
  obtain ⟨base, cap, rfl⟩ := hq.shape
  cases base with
  | some ad =>
    refine wpList_append_own _ hgd s x t ho B e i0 z n bytes ht hi0 hz0 hz1 hz2 hzs hn v L.length (L.flatMap f) hs hown ad D.length cap (D.flatMap f) hx (cat_len hf D) (hq.cells hf) (fun u hu => ?_) hl hby hB fun v' w' h2 h3 _ => h v' w' ?_ ?_
    · obtain ⟨y, _, hy⟩ := List.mem_flatMap.1 hu
      exact h1 y u hy
    · simpa using h2
    · exact (Kep.refl B W).row h3 hB (fun k q => (hown.lt k q).1)
  | none =>
    have hD : D = [] := by
      cases D with
      | nil => rfl
      | cons y D =>
        obtain ⟨_, _, e0, hc⟩ := hq
        injection e0 with e1
        obtain ⟨g, off, e2, _⟩ := hc 0 y rfl
        rw [← e1] at e2
        cases e2
    subst hD
    have hr : (Builtin.append_ #[t, t] o.type #[v, .slice none 0 cap]).run P W = .ok v W := by
      rcases hown.2 with ⟨rfl, _⟩ | ⟨g, cp, cur, rfl, _, _, hc, _⟩
      · simp [Builtin.append_, run_underlying ht, sizeOf, typeInfo, hi0, Builtin.lenOf, Builtin.firstCells]
      · simp [Builtin.append_, run_underlying ht, sizeOf, typeInfo, hi0, Builtin.lenOf, run_firstCells_none, storeCells, hc]
    refine wpList_plain hgd fun K hK => ?_
    unfold Oper.wp execOp
    simp only [ho, resolve, invoke, builtin, Sem.run_bind, Sem.run_pure, Result.andThen_ok, List.map_toArray, List.map_cons, List.map_nil, hs, hx, List.length_nil, hr]
    exact hK _ _ (h v W (by simpa using hown) (Kep.refl _ _))
/-- As wpList_appAll, at a step of a region that draws its order. -/
theorem step_appAll {α : Type} (f : α → List Value) (n : Nat) (hf : ∀ x, (f x).length = n) (h1 : ∀ x, ∀ u ∈ f x, u.oneCell' = true) {P : Program} {ops : Array Oper} {o : Oper} {a : Act} {K : Act → World → Prop} {Q : Exit → Act → World → Prop} {E : Prop} (hgd : o.guard = none) (s x : Operand) (t : TypeId)
    (ho : o.op = .call { callee := .builtin .append, args := #[s, x], argTypes := #[t, t] }) (e : TypeId) (z : Value) (bytes : Nat) (ht : P.underlying t = some (.slice e))
    (hi : (P.info? e).map (fun i => (i.zero, i.size, i.bytes)) = some (some z, n, bytes)) (hzs : z.cells.size = n) (hn : 0 < n)
    (B : Nat) (W : World) (v vx : Value) (L D : List α) (hs : a.eval s = v) (hown : W.ownsRow B e n v L.length (L.flatMap f)) (hx : a.eval x = vx) (hq : Sq f n W vx D) (hl : L.length + D.length ≤ maxLen) (hby : (L.length + D.length) * bytes ≤ 140737488355328) (hB : B ≤ W.heap.size)
    (h : ∀ v' w', w'.ownsRow B e n v' (L ++ D).length ((L ++ D).flatMap f) → Kep B W w' → K (a.put o.dst v') w') : if Region.wanted o (yielded ops a.tmps) = true then Oper.wp P o a W K Q else E := by
  have hw : Region.wanted o (yielded ops a.tmps) = true := by simp [Region.wanted, hgd]
  rw [if_pos hw]
  obtain ⟨i0, hi0, hz0, hz1, hz2⟩ := info_parts hi
  obtain ⟨base, cap, rfl⟩ := hq.shape
  cases base with
  | some ad =>
    refine wp_append_own _ s x t ho B e i0 z n bytes ht hi0 hz0 hz1 hz2 hzs hn v L.length (L.flatMap f) hs hown ad D.length cap (D.flatMap f) hx (cat_len hf D) (hq.cells hf) (fun u hu => ?_) hl hby hB fun v' w' h2 h3 _ => h v' w' ?_ ?_
    · obtain ⟨y, _, hy⟩ := List.mem_flatMap.1 hu
      exact h1 y u hy
    · simpa using h2
    · exact (Kep.refl B W).row h3 hB (fun k q => (hown.lt k q).1)
  | none =>
    have hD : D = [] := by
      cases D with
      | nil => rfl
      | cons y D =>
        obtain ⟨_, _, e0, hc⟩ := hq
        injection e0 with e1
        obtain ⟨g, off, e2, _⟩ := hc 0 y rfl
        rw [← e1] at e2
        cases e2
    subst hD
    have hr : (Builtin.append_ #[t, t] o.type #[v, .slice none 0 cap]).run P W = .ok v W := by
      rcases hown.2 with ⟨rfl, _⟩ | ⟨g, cp, cur, rfl, _, _, hc, _⟩
      · simp [Builtin.append_, run_underlying ht, sizeOf, typeInfo, hi0, Builtin.lenOf, Builtin.firstCells]
      · simp [Builtin.append_, run_underlying ht, sizeOf, typeInfo, hi0, Builtin.lenOf, run_firstCells_none, storeCells, hc]
    unfold Oper.wp execOp
    simp only [ho, resolve, invoke, builtin, Sem.run_bind, Sem.run_pure, Result.andThen_ok, List.map_toArray, List.map_cons, List.map_nil, hs, hx, List.length_nil, hr]
    exact (h v W (by simpa using hown) (Kep.refl _ _))
theorem sq_zero {α : Type} {f : α → List Value} {n : Nat} {w : World} {L : List α} {b : Option Addr} {m c : Nat} (hl : L = []) (hm : m = 0) : Sq f n w (.slice b m c) L := by
  subst hl hm
  exact Sq.nil
/-- A list without its first k elements. -/
theorem sq_drop {α : Type} {f : α → List Value} {n : Nat} {w : World} {L : List α} {g off len k c : Nat} (hl : L.length = len) (hc : ∀ (k : Nat) (x : α), L[k]? = some x → ∃ g' off', (some ⟨g, off, none⟩ : Option Addr) = some ⟨g', off', none⟩ ∧ ∀ (i : Nat) (u : Value), (f x)[i]? = some u → w.cell? ⟨g', off' + k * n + i, none⟩ = some u) :
    Sq f n w (.slice (some ⟨g, off + k * n, none⟩) (len - k) c) (L.drop k) := by
  refine ⟨_, c, by rw [List.length_drop, hl], fun j x hx => ⟨g, off + k * n, rfl, fun i u hu => ?_⟩⟩
  rw [List.getElem?_drop] at hx
  obtain ⟨g', off', e, hi⟩ := hc (k + j) x hx
  injection e with e
  injection e with e1 e2
  subst e1 e2
  have := hi i u hu
  rw [Nat.add_mul, ← Nat.add_assoc] at this
  exact this
/-- As wpList_app, with what becomes of every block but the list's own. -/
theorem wpList_app2 {α : Type} (f : α → List Value) (n : Nat) (hf : ∀ x, (f x).length = n) (h1 : ∀ x, ∀ u ∈ f x, u.oneCell' = true) {P : Program} {ops : Array Oper} {rest : List Oper} {o : Oper} {a : Act} {Q : Exit → Act → World → Prop} (hgd : o.guard = none) (s x : Operand) (t : TypeId)
    (ho : o.op = .call { callee := .builtin .append, args := #[s, x], argTypes := #[t, t] }) (e : TypeId) (z : Value) (bytes : Nat) (ht : P.underlying t = some (.slice e))
    (hi : (P.info? e).map (fun i => (i.zero, i.size, i.bytes)) = some (some z, n, bytes)) (hzs : z.cells.size = n) (hn : 0 < n)
    (B : Nat) (W : World) (v : Value) (L : List α) (y : α) (hs : a.eval s = v) (hown : W.ownsRow B e n v L.length (L.flatMap f)) (b : Nat) (hb : b = W.heap.size) (hx : a.eval x = .slice (some ⟨b, 0, none⟩) 1 1)
    (cs : Array Value) (hcs : cs.toList = f y) (hl : L.length + 1 ≤ maxLen) (hby : (L.length + 1) * bytes ≤ 140737488355328) (hB : B ≤ W.heap.size)
    (h : ∀ v' w', w'.ownsRow B e n v' (L ++ [y]).length ((L ++ [y]).flatMap f) → Kep B W w' → (W.alloc (.cells cs e)).grownBy w' v.ownBlock → wpList P ops Q rest (a.put o.dst v') w') : wpList P ops Q (o :: rest) a (W.alloc (.cells cs e)) := by
  subst hb
  obtain ⟨i0, hi0, hz0, hz1, hz2⟩ := info_parts hi
  refine wpList_append_own _ hgd s x t ho B e i0 z n bytes ht hi0 hz0 hz1 hz2 hzs hn v L.length (L.flatMap f) hs (hown.alloc _) ⟨_, 0, none⟩ 1 1 (f y) hx (by rw [hf]; omega) (fun j u hu => ?_) (h1 y) hl hby (by simp; omega) fun v' w' h2 h3 _ => h v' w' ?_ ?_ h3
  · have q : ((⟨W.heap.size, 0, none⟩ : Addr).add j) = ⟨W.heap.size, j, none⟩ := by simp [Addr.add]; exact Eq.symm
    rw [q, World.cell?_alloc_at _ _ _ _ rfl]
    rw [← hcs] at hu
    simpa using hu
  · simpa using h2
  · exact ((Kep.refl B W).alloc hB _).row h3 (by simp; omega) (fun k q => (hown.lt k q).1)
/-- Lists of elements of different types lie apart. -/
theorem own_apart {w : World} {b b' s s' n n' : Nat} {e e' : TypeId} {v v' : Value} {xs xs' : List Value} (h : w.ownsRow b e s v n xs) (k : w.ownsRow b' e' s' v' n' xs') (hne : e ≠ e') : v.ownBlock = none ∨ v.ownBlock ≠ v'.ownBlock := by
  rcases h.2 with ⟨rfl, _⟩ | ⟨g, cap, cur, rfl, _, hg, _⟩
  · exact .inl rfl
  · refine .inr fun q => ?_
    rcases k.2 with ⟨rfl, _⟩ | ⟨g', cap', cur', rfl, _, hg', _⟩
    · simp [Value.ownBlock] at q
    · simp [Value.ownBlock] at q
      subst q
      rw [hg] at hg'
      injection hg' with hg'
      injection hg' with _ e1 _
      exact hne e1
/-- A list of lists: each is a slice. -/
abbrev Sl := Option Addr × Nat × Nat
def sv (s : Sl) : List Value := [.slice s.1 s.2.1 s.2.2]
theorem sv_len (s : Sl) : (sv s).length = 1 := rfl
theorem sv_one (s : Sl) : ∀ u ∈ sv s, u.oneCell' = true := by
  intro u hu
  simp only [sv, List.mem_cons, List.not_mem_nil, or_false] at hu
  subst hu
  rfl
theorem own_slice {w : World} {B : Nat} {t : TypeId} {size n : Nat} {v : Value} {xs : List Value} (h : w.ownsRow B t size v n xs) : ∃ s : Sl, v = .slice s.1 s.2.1 s.2.2 ∧ s.2.1 = n := by
  rcases h.2 with ⟨rfl, rfl⟩ | ⟨g, cap, cur, rfl, _⟩
  · exact ⟨(none, 0, 0), rfl, rfl⟩
  · exact ⟨(_, _, _), rfl, rfl⟩
theorem sq_drop1 {α : Type} {f : α → List Value} {w : World} {L : List α} {g off len k c : Nat} (hl : L.length = len) (hc : ∀ (k : Nat) (x : α), L[k]? = some x → ∃ g' off', (some ⟨g, off, none⟩ : Option Addr) = some ⟨g', off', none⟩ ∧ ∀ (i : Nat) (u : Value), (f x)[i]? = some u → w.cell? ⟨g', off' + k * 1 + i, none⟩ = some u) :
    Sq f 1 w (.slice (some ⟨g, off + k, none⟩) (len - k) c) (L.drop k) := by
  have := sq_drop (k := k) (c := c) hl hc
  rw [Nat.mul_one] at this
  exact this
end Go.Proofs.Ytlabeelbbkbkaaa
end

section
/-
  Package wide: what MulShift and Mul return, for all arguments.
-/
namespace Go.Proofs.Ytlabeelbbkbkaaa
open Go.RowKit Go.Lib

theorem two_pow (k : Nat) (hk : k ≤ 63) : 0 < (2 : Int) ^ k ∧ (2 : Int) ^ k ≤ 9223372036854775808 := by
  have c : ((2 : Int) ^ k) = ((2 ^ k : Nat) : Int) := by rw [Int.natCast_pow]; rfl
  have h1 : 2 ^ k ≤ 2 ^ 63 := Nat.pow_le_pow_right (by omega) hk
  have h2 := Nat.two_pow_pos k
  rw [c]
  omega

end Go.Proofs.Ytlabeelbbkbkaaa
end

section
/-
  The reference implementation of package wide: its division, bit by bit.
-/
namespace Go.Proofs.Ytlabeelbbkbkaaa
open Go.RowKit Go.Lib

theorem grown_cell {w w' : World} (h : Grown w w') {b o : Nat} {v : Value} (hb : b < w.heap.size) (hc : w.cell? ⟨b, o, none⟩ = some v) : w'.cell? ⟨b, o, none⟩ = some v := by
  rw [World.keptBut.cell h.1 hb (fun f => f), hc]

/-- A number's eight cells. -/
def Cells8 (w : World) (b : Nat) (z0 z1 z2 z3 z4 z5 z6 z7 : Int) : Prop := b < w.heap.size ∧ w.cell? ⟨b, 0, none⟩ = some (.int .u64 z0) ∧ w.cell? ⟨b, 1, none⟩ = some (.int .u64 z1) ∧ w.cell? ⟨b, 2, none⟩ = some (.int .u64 z2) ∧ w.cell? ⟨b, 3, none⟩ = some (.int .u64 z3) ∧
  w.cell? ⟨b, 4, none⟩ = some (.int .u64 z4) ∧ w.cell? ⟨b, 5, none⟩ = some (.int .u64 z5) ∧ w.cell? ⟨b, 6, none⟩ = some (.int .u64 z6) ∧ w.cell? ⟨b, 7, none⟩ = some (.int .u64 z7)
theorem Cells8.grown {w w' : World} {b : Nat} {z0 z1 z2 z3 z4 z5 z6 z7 : Int} (h : Cells8 w b z0 z1 z2 z3 z4 z5 z6 z7) (g : Grown w w') : Cells8 w' b z0 z1 z2 z3 z4 z5 z6 z7 := by
  obtain ⟨hb, c0, c1, c2, c3, c4, c5, c6, c7⟩ := h
  exact ⟨Nat.lt_of_lt_of_le hb g.2.2, grown_cell g hb c0, grown_cell g hb c1, grown_cell g hb c2, grown_cell g hb c3, grown_cell g hb c4, grown_cell g hb c5, grown_cell g hb c6, grown_cell g hb c7⟩

end Go.Proofs.Ytlabeelbbkbkaaa
end

section
/-
  The reference implementation of package wide: floor, MulDiv and MulShift return what the program's functions return.
-/
namespace Go.Proofs.Ytlabeelbbkbkaaa
open Go.RowKit Go.Lib

/-- What floor is asked for. -/
def flv (Q r : Int) (n : Bool) : Int := if n then -(Q + if 0 < r then 1 else 0) else Q

/-- The quotient of magnitudes, rounded down, by the quotient and the rest. -/
theorem flv_qs (V d : Int) (n : Bool) (hd : 0 < d) : flv (V / d) (V % d) n = qs V d n := by
  unfold flv qs
  cases n
  · rfl
  · have h0 := Int.emod_nonneg V (show d ≠ 0 by omega)
    have h1 := Int.emod_lt_of_pos V hd
    have h2 := Int.mul_ediv_add_emod V d
    have e : (V + d - 1) / d = V / d + if 0 < V % d then 1 else 0 := by
      rw [Int.ediv_eq_iff_of_pos hd, Int.add_mul, Int.mul_comm (V / d) d]
      split <;> omega
    simp [e]
end Go.Proofs.Ytlabeelbbkbkaaa
end

section
/-
  Package body: its slow reference.
-/
namespace Go.Proofs.Ytlabeelbbkbkaaa
open Go.RowKit Go.Lib

/-- The error that a body has, 0 if none. -/
def chk (r ax ay m o px py vx vy : Int) : Int :=
  if 4096 ≤ r ∧ r ≤ 4194304 then
    if (-4194304 ≤ ax ∧ ax ≤ 4194304) ∧ (-4194304 ≤ ay ∧ ay ≤ 4194304) then
      if 0 ≤ m ∧ m ≤ 1048576 then
        if 0 ≤ o ∧ o ≤ 65536 then
          if (-1073741824 ≤ px ∧ px ≤ 1073741824) ∧ (-1073741824 ≤ py ∧ py ≤ 1073741824) then
            if (-16777216 ≤ vx ∧ vx ≤ 16777216) ∧ (-16777216 ≤ vy ∧ vy ≤ 16777216) then 0 else 9
          else 8
        else 7
      else 6
    else 5
  else 4
abbrev RIn (n l : Int) (c : Bool) : Prop := ∀ w, Calls Try.prog 32 #[.int .i32 n, .int .i32 l] w fun e w' => e = .returned (.bool c) ∧ w = w'
abbrev Rck (k r ax ay m o px py vx vy c : Int) : Prop := ∀ w, Calls Try.prog 19 #[.agg #[.int .u32 k, .int .i32 r, .int .i32 ax, .int .i32 ay, .int .i32 m, .int .i32 o, .int .i32 px, .int .i32 py, .int .i32 vx, .int .i32 vy]] w fun e w' => e = .returned (.int .i64 c) ∧ Grown w w'

theorem rin {n l : Int} {c : Bool} (h1 : 0 ≤ l) (h2 : l < 2147483648) (hc : decide (-l ≤ n ∧ n ≤ l) = c) : RIn n l c := fun w => by
  have e1 : IntKind.i32.wrap (-l) = -l := by rw [IntKind.wrap_i32]; omega
  have e2 : wrap32 (-l) = -l := by unfold wrap32; omega
  by_cases g1 : -l ≤ n
  · by_cases g2 : n ≤ l
    · obtain rfl : true = c := by rw [← hc, decide_eq_true (And.intro g1 g2)]
      clear hc
      go_enter Try.func32, Try.ntmps32
      go_wp2
      go_ret
      exact ⟨rfl, rfl⟩
    · obtain rfl : false = c := by rw [← hc, decide_eq_false (fun h => g2 h.2)]
      clear hc
      go_enter Try.func32, Try.ntmps32
      go_wp2
      go_ret
      exact ⟨rfl, rfl⟩
  · obtain rfl : false = c := by rw [← hc, decide_eq_false (fun h => g1 h.1)]
    clear hc
    go_enter Try.func32, Try.ntmps32
    go_wp2
    go_ret
    exact ⟨rfl, rfl⟩
theorem ret_i64 {a b : Int} (h : a = b) : Ending.returned (.int .i64 a) = Ending.returned (.int .i64 b) := by rw [h]
set_option maxRecDepth 100000 in
set_option maxHeartbeats 8000000 in
theorem rck (k r ax ay m o px py vx vy c : Int) (hc : chk r ax ay m o px py vx vy = c) : Rck k r ax ay m o px py vx vy c := fun w => by
  by_cases g0 : r < 4096
  · have HC : Hid (c = 4) := Lib.hid (by rw [← hc]; unfold chk; repeat (first | rw [if_pos (by omega)] | rw [if_neg (by omega)]))
    clear hc
    go_enter Try.func19, Try.ntmps19
    go_wp2
    go_ret
    exact ⟨ret_i64 HC.out.symm, (Grown.refl _).alloc _ _⟩
  by_cases g1 : 4194304 < r
  · have HC : Hid (c = 4) := Lib.hid (by rw [← hc]; unfold chk; repeat (first | rw [if_pos (by omega)] | rw [if_neg (by omega)]))
    clear hc
    go_enter Try.func19, Try.ntmps19
    go_wp2
    go_ret
    exact ⟨ret_i64 HC.out.symm, (Grown.refl _).alloc _ _⟩
  by_cases g2 : ¬ (-4194304 ≤ ax ∧ ax ≤ 4194304)
  · have Jax := Lib.hid (rin (n := ax) (l := 4194304) (c := false) (by decide) (by decide) (decide_eq_false g2))
    have HC : Hid (c = 5) := Lib.hid (by rw [← hc]; unfold chk; repeat (first | rw [if_pos (by omega)] | rw [if_neg (by omega)]))
    clear hc
    go_enter Try.func19, Try.ntmps19
    go_wp2_with (first
      | ((with_reducible refine (Jax.out _).mono ?_); rintro e w' ⟨rfl, rfl⟩))
    go_ret
    exact ⟨ret_i64 HC.out.symm, (Grown.refl _).alloc _ _⟩
  replace g2 := Decidable.not_not.1 g2
  have Jax := Lib.hid (rin (n := ax) (l := 4194304) (c := true) (by decide) (by decide) (decide_eq_true g2))
  by_cases g3 : ¬ (-4194304 ≤ ay ∧ ay ≤ 4194304)
  · have Jay := Lib.hid (rin (n := ay) (l := 4194304) (c := false) (by decide) (by decide) (decide_eq_false g3))
    have HC : Hid (c = 5) := Lib.hid (by rw [← hc]; unfold chk; repeat (first | rw [if_pos (by omega)] | rw [if_neg (by omega)]))
    clear hc
    go_enter Try.func19, Try.ntmps19
    go_wp2_with (first
      | ((with_reducible refine (Jax.out _).mono ?_); rintro e w' ⟨rfl, rfl⟩)
      | ((with_reducible refine (Jay.out _).mono ?_); rintro e w' ⟨rfl, rfl⟩))
    go_ret
    exact ⟨ret_i64 HC.out.symm, (Grown.refl _).alloc _ _⟩
  replace g3 := Decidable.not_not.1 g3
  have Jay := Lib.hid (rin (n := ay) (l := 4194304) (c := true) (by decide) (by decide) (decide_eq_true g3))
  by_cases g4 : m < 0
  · have HC : Hid (c = 6) := Lib.hid (by rw [← hc]; unfold chk; repeat (first | rw [if_pos (by omega)] | rw [if_neg (by omega)]))
    clear hc
    go_enter Try.func19, Try.ntmps19
    go_wp2_with (first
      | ((with_reducible refine (Jax.out _).mono ?_); rintro e w' ⟨rfl, rfl⟩)
      | ((with_reducible refine (Jay.out _).mono ?_); rintro e w' ⟨rfl, rfl⟩))
    go_ret
    exact ⟨ret_i64 HC.out.symm, (Grown.refl _).alloc _ _⟩
  by_cases g5 : 1048576 < m
  · have HC : Hid (c = 6) := Lib.hid (by rw [← hc]; unfold chk; repeat (first | rw [if_pos (by omega)] | rw [if_neg (by omega)]))
    clear hc
    go_enter Try.func19, Try.ntmps19
    go_wp2_with (first
      | ((with_reducible refine (Jax.out _).mono ?_); rintro e w' ⟨rfl, rfl⟩)
      | ((with_reducible refine (Jay.out _).mono ?_); rintro e w' ⟨rfl, rfl⟩))
    go_ret
    exact ⟨ret_i64 HC.out.symm, (Grown.refl _).alloc _ _⟩
  by_cases g6 : o < 0
  · have HC : Hid (c = 7) := Lib.hid (by rw [← hc]; unfold chk; repeat (first | rw [if_pos (by omega)] | rw [if_neg (by omega)]))
    clear hc
    go_enter Try.func19, Try.ntmps19
    go_wp2_with (first
      | ((with_reducible refine (Jax.out _).mono ?_); rintro e w' ⟨rfl, rfl⟩)
      | ((with_reducible refine (Jay.out _).mono ?_); rintro e w' ⟨rfl, rfl⟩))
    go_ret
    exact ⟨ret_i64 HC.out.symm, (Grown.refl _).alloc _ _⟩
  by_cases g7 : 65536 < o
  · have HC : Hid (c = 7) := Lib.hid (by rw [← hc]; unfold chk; repeat (first | rw [if_pos (by omega)] | rw [if_neg (by omega)]))
    clear hc
    go_enter Try.func19, Try.ntmps19
    go_wp2_with (first
      | ((with_reducible refine (Jax.out _).mono ?_); rintro e w' ⟨rfl, rfl⟩)
      | ((with_reducible refine (Jay.out _).mono ?_); rintro e w' ⟨rfl, rfl⟩))
    go_ret
    exact ⟨ret_i64 HC.out.symm, (Grown.refl _).alloc _ _⟩
  by_cases g8 : ¬ (-1073741824 ≤ px ∧ px ≤ 1073741824)
  · have Jpx := Lib.hid (rin (n := px) (l := 1073741824) (c := false) (by decide) (by decide) (decide_eq_false g8))
    have HC : Hid (c = 8) := Lib.hid (by rw [← hc]; unfold chk; repeat (first | rw [if_pos (by omega)] | rw [if_neg (by omega)]))
    clear hc
    go_enter Try.func19, Try.ntmps19
    go_wp2_with (first
      | ((with_reducible refine (Jax.out _).mono ?_); rintro e w' ⟨rfl, rfl⟩)
      | ((with_reducible refine (Jay.out _).mono ?_); rintro e w' ⟨rfl, rfl⟩)
      | ((with_reducible refine (Jpx.out _).mono ?_); rintro e w' ⟨rfl, rfl⟩))
    go_ret
    exact ⟨ret_i64 HC.out.symm, (Grown.refl _).alloc _ _⟩
  replace g8 := Decidable.not_not.1 g8
  have Jpx := Lib.hid (rin (n := px) (l := 1073741824) (c := true) (by decide) (by decide) (decide_eq_true g8))
  by_cases g9 : ¬ (-1073741824 ≤ py ∧ py ≤ 1073741824)
  · have Jpy := Lib.hid (rin (n := py) (l := 1073741824) (c := false) (by decide) (by decide) (decide_eq_false g9))
    have HC : Hid (c = 8) := Lib.hid (by rw [← hc]; unfold chk; repeat (first | rw [if_pos (by omega)] | rw [if_neg (by omega)]))
    clear hc
    go_enter Try.func19, Try.ntmps19
    go_wp2_with (first
      | ((with_reducible refine (Jax.out _).mono ?_); rintro e w' ⟨rfl, rfl⟩)
      | ((with_reducible refine (Jay.out _).mono ?_); rintro e w' ⟨rfl, rfl⟩)
      | ((with_reducible refine (Jpx.out _).mono ?_); rintro e w' ⟨rfl, rfl⟩)
      | ((with_reducible refine (Jpy.out _).mono ?_); rintro e w' ⟨rfl, rfl⟩))
    go_ret
    exact ⟨ret_i64 HC.out.symm, (Grown.refl _).alloc _ _⟩
  replace g9 := Decidable.not_not.1 g9
  have Jpy := Lib.hid (rin (n := py) (l := 1073741824) (c := true) (by decide) (by decide) (decide_eq_true g9))
  by_cases g10 : ¬ (-16777216 ≤ vx ∧ vx ≤ 16777216)
  · have Jvx := Lib.hid (rin (n := vx) (l := 16777216) (c := false) (by decide) (by decide) (decide_eq_false g10))
    have HC : Hid (c = 9) := Lib.hid (by rw [← hc]; unfold chk; repeat (first | rw [if_pos (by omega)] | rw [if_neg (by omega)]))
    clear hc
    go_enter Try.func19, Try.ntmps19
    go_wp2_with (first
      | ((with_reducible refine (Jax.out _).mono ?_); rintro e w' ⟨rfl, rfl⟩)
      | ((with_reducible refine (Jay.out _).mono ?_); rintro e w' ⟨rfl, rfl⟩)
      | ((with_reducible refine (Jpx.out _).mono ?_); rintro e w' ⟨rfl, rfl⟩)
      | ((with_reducible refine (Jpy.out _).mono ?_); rintro e w' ⟨rfl, rfl⟩)
      | ((with_reducible refine (Jvx.out _).mono ?_); rintro e w' ⟨rfl, rfl⟩))
    go_ret
    exact ⟨ret_i64 HC.out.symm, (Grown.refl _).alloc _ _⟩
  replace g10 := Decidable.not_not.1 g10
  have Jvx := Lib.hid (rin (n := vx) (l := 16777216) (c := true) (by decide) (by decide) (decide_eq_true g10))
  by_cases g11 : ¬ (-16777216 ≤ vy ∧ vy ≤ 16777216)
  · have Jvy := Lib.hid (rin (n := vy) (l := 16777216) (c := false) (by decide) (by decide) (decide_eq_false g11))
    have HC : Hid (c = 9) := Lib.hid (by rw [← hc]; unfold chk; repeat (first | rw [if_pos (by omega)] | rw [if_neg (by omega)]))
    clear hc
    go_enter Try.func19, Try.ntmps19
    go_wp2_with (first
      | ((with_reducible refine (Jax.out _).mono ?_); rintro e w' ⟨rfl, rfl⟩)
      | ((with_reducible refine (Jay.out _).mono ?_); rintro e w' ⟨rfl, rfl⟩)
      | ((with_reducible refine (Jpx.out _).mono ?_); rintro e w' ⟨rfl, rfl⟩)
      | ((with_reducible refine (Jpy.out _).mono ?_); rintro e w' ⟨rfl, rfl⟩)
      | ((with_reducible refine (Jvx.out _).mono ?_); rintro e w' ⟨rfl, rfl⟩)
      | ((with_reducible refine (Jvy.out _).mono ?_); rintro e w' ⟨rfl, rfl⟩))
    go_ret
    exact ⟨ret_i64 HC.out.symm, (Grown.refl _).alloc _ _⟩
  replace g11 := Decidable.not_not.1 g11
  have Jvy := Lib.hid (rin (n := vy) (l := 16777216) (c := true) (by decide) (by decide) (decide_eq_true g11))
  have HC : Hid (c = 0) := Lib.hid (by rw [← hc]; unfold chk; repeat (first | rw [if_pos (by omega)] | rw [if_neg (by omega)]))
  clear hc
  go_enter Try.func19, Try.ntmps19
  go_wp2_with (first
    | ((with_reducible refine (Jax.out _).mono ?_); rintro e w' ⟨rfl, rfl⟩)
    | ((with_reducible refine (Jay.out _).mono ?_); rintro e w' ⟨rfl, rfl⟩)
    | ((with_reducible refine (Jpx.out _).mono ?_); rintro e w' ⟨rfl, rfl⟩)
    | ((with_reducible refine (Jpy.out _).mono ?_); rintro e w' ⟨rfl, rfl⟩)
    | ((with_reducible refine (Jvx.out _).mono ?_); rintro e w' ⟨rfl, rfl⟩)
    | ((with_reducible refine (Jvy.out _).mono ?_); rintro e w' ⟨rfl, rfl⟩))
  go_ret
  exact ⟨ret_i64 HC.out.symm, (Grown.refl _).alloc _ _⟩
end Go.Proofs.Ytlabeelbbkbkaaa
end

section
/-
  What a valid body's parts lie within.
-/
namespace Go.Proofs.Ytlabeelbbkbkaaa
open Go.RowKit Go.Lib

theorem chk_lim {r ax ay m o px py vx vy : Int} (h : chk r ax ay m o px py vx vy = 0) : (4096 ≤ r ∧ r ≤ 4194304) ∧ ((-4194304 ≤ ax ∧ ax ≤ 4194304) ∧ (-4194304 ≤ ay ∧ ay ≤ 4194304)) ∧ ((-1073741824 ≤ px ∧ px ≤ 1073741824) ∧ (-1073741824 ≤ py ∧ py ≤ 1073741824)) := by
  unfold chk at h
  split at h
  · split at h
    · split at h
      · split at h
        · split at h
          · rename_i h1 h2 h3 h4 h5
            exact ⟨h1, h2, h5⟩
          · omega
        · omega
      · omega
    · omega
  · omega
end Go.Proofs.Ytlabeelbbkbkaaa
end

section
/-
  Package impulse: its arithmetic (no program).
-/
namespace Go.Proofs.Ytlabeelbbkbkaaa
open Go.RowKit Go.Lib

/-- A valid body's parts that impulses look at. -/
structure Vb (x : Bd) : Prop where
  m0 : 0 ≤ x.m
  m1 : x.m ≤ 1048576
  o0 : 0 ≤ x.o
  o1 : x.o ≤ 65536
  vx0 : -16777216 ≤ x.vx
  vx1 : x.vx ≤ 16777216
  vy0 : -16777216 ≤ x.vy
  vy1 : x.vy ≤ 16777216
theorem vb_of {x : Bd} (h : chk x.r x.ax x.ay x.m x.o x.px x.py x.vx x.vy = 0) : Vb x := by
  unfold chk at h
  split at h
  · split at h
    · split at h
      · split at h
        · split at h
          · split at h
            · rename_i a1 a2 a3 a4 a5 a6
              exact ⟨by omega, by omega, by omega, by omega, by omega, by omega, by omega, by omega⟩
            · exact absurd h (by decide)
          · exact absurd h (by decide)
        · exact absurd h (by decide)
      · exact absurd h (by decide)
    · exact absurd h (by decide)
  · exact absurd h (by decide)
abbrev Nr (n : Int) : Prop := -65536 ≤ n ∧ n ≤ 65536
/-- The scalar product of a normal and the difference of the velocities. -/
def spI (nx ny : Int) (x y : Bd) : Int := (y.vx - x.vx) * nx + (y.vy - x.vy) * ny
def apI (nx ny : Int) (x y : Bd) : Int := spI nx ny x y / 65536
def bnI (x y : Bd) : Int := max x.o y.o
def stI (nx ny : Int) (x y : Bd) : Int := if 0 ≤ apI nx ny x y ∨ x.m + y.m = 0 then 0 else -(apI nx ny x y) * (65536 + bnI x y) / (x.m + y.m)
def chI (j i n : Int) : Int := j * i / 65536 * n / 65536
theorem mul_bd {a b A B : Int} (ha : -A ≤ a ∧ a ≤ A) (hb : -B ≤ b ∧ b ≤ B) : -(A * B) ≤ a * b ∧ a * b ≤ A * B := by
  have hA : 0 ≤ A := by omega
  have hB : 0 ≤ B := by omega
  have key : ∀ c : Int, 0 ≤ c → c ≤ A → -(A * B) ≤ c * b ∧ c * b ≤ A * B := fun c h0 h1 => by
    have p1 := Int.mul_le_mul_of_nonneg_left hb.2 h0
    have p2 := Int.mul_le_mul_of_nonneg_left hb.1 h0
    have p3 := Int.mul_le_mul_of_nonneg_right h1 hB
    rw [Int.mul_neg] at p2
    omega
  rcases Int.le_total 0 a with c | c
  · exact key a c ha.2
  · have := key (-a) (by omega) (by omega)
    rw [Int.neg_mul] at this
    omega
theorem sp_bd {nx ny : Int} {x y : Bd} (hx : Vb x) (hy : Vb y) (h1 : Nr nx) (h2 : Nr ny) : (-2199023255552 ≤ (y.vx - x.vx) * nx ∧ (y.vx - x.vx) * nx ≤ 2199023255552) ∧ (-2199023255552 ≤ (y.vy - x.vy) * ny ∧ (y.vy - x.vy) * ny ≤ 2199023255552) := by
  have a1 : -33554432 ≤ y.vx - x.vx ∧ y.vx - x.vx ≤ 33554432 := by have := hx.vx0; have := hx.vx1; have := hy.vx0; have := hy.vx1; omega
  have a2 : -33554432 ≤ y.vy - x.vy ∧ y.vy - x.vy ≤ 33554432 := by have := hx.vy0; have := hx.vy1; have := hy.vy0; have := hy.vy1; omega
  have b1 := mul_bd a1 h1
  have b2 := mul_bd a2 h2
  omega
theorem ap_bd {nx ny : Int} {x y : Bd} (hx : Vb x) (hy : Vb y) (h1 : Nr nx) (h2 : Nr ny) : -67108864 ≤ apI nx ny x y ∧ apI nx ny x y ≤ 67108864 := by
  have h := sp_bd hx hy h1 h2
  unfold apI spI
  omega
theorem bn_bd {x y : Bd} (hx : Vb x) (hy : Vb y) : 0 ≤ bnI x y ∧ bnI x y ≤ 65536 := by
  have := hx.o0; have := hx.o1; have := hy.o0; have := hy.o1
  unfold bnI
  omega
theorem num_bd {nx ny : Int} {x y : Bd} (hx : Vb x) (hy : Vb y) (h1 : Nr nx) (h2 : Nr ny) (hv : apI nx ny x y < 0) : 0 ≤ -(apI nx ny x y) * (65536 + bnI x y) ∧ -(apI nx ny x y) * (65536 + bnI x y) ≤ 8796093022208 := by
  have a := ap_bd hx hy h1 h2
  have b := bn_bd hx hy
  have p := mul_bd (a := -(apI nx ny x y)) (b := 65536 + bnI x y) (A := 67108864) (B := 131072) (by omega) (by omega)
  refine ⟨Int.mul_nonneg (by omega) (by omega), by omega⟩
/-- The strength is from 0 to 2^43. -/
theorem st_bd {nx ny : Int} {x y : Bd} (hx : Vb x) (hy : Vb y) (h1 : Nr nx) (h2 : Nr ny) : 0 ≤ stI nx ny x y ∧ stI nx ny x y ≤ 8796093022208 := by
  unfold stI
  split
  · omega
  · rename_i h
    have hn := num_bd hx hy h1 h2 (by omega)
    have hm : 1 ≤ x.m + y.m := by have := hx.m0; have := hy.m0; omega
    generalize -(apI nx ny x y) * (65536 + bnI x y) = N at *
    generalize x.m + y.m = M at *
    refine ⟨Int.ediv_nonneg hn.1 (by omega), ?_⟩
    have := Int.ediv_le_self M hn.1
    omega
theorem st_pos {nx ny : Int} {x y : Bd} (h : 0 < stI nx ny x y) : apI nx ny x y < 0 ∧ x.m + y.m ≠ 0 := by
  unfold stI at h
  split at h
  · omega
  · rename_i c
    exact ⟨by omega, by omega⟩
/-- What is shifted stays in range. -/
theorem k_bd {j i : Int} (hj : 0 ≤ j ∧ j ≤ 8796093022208) (hi : 0 ≤ i ∧ i ≤ 1048576) : 0 ≤ j * i ∧ j * i ≤ 9223372036854775808 ∧ 0 ≤ j * i / 65536 ∧ j * i / 65536 ≤ 140737488355328 := by
  have p0 := Int.mul_nonneg hj.1 hi.1
  have p1 := Int.mul_le_mul hj.2 hi.2 hi.1 (by decide)
  omega
theorem ch_bd {k n : Int} (hk : 0 ≤ k ∧ k ≤ 140737488355328) (hn : Nr n) : -140737488355328 ≤ k * n / 65536 ∧ k * n / 65536 ≤ 140737488355328 := by
  have p := mul_bd (a := k) (b := n) (A := 140737488355328) (B := 65536) (by omega) hn
  omega
theorem rv_i64 {v : Int} (h1 : -9223372036854775808 ≤ v) (h2 : v < 9223372036854775808) : rv v = v := if_pos ⟨h1, h2⟩
theorem msv_16 {a b : Int} (h1 : -9223372036854775808 ≤ a * b / 65536) (h2 : a * b / 65536 < 9223372036854775808) : msv a b 16 = a * b / 65536 := by
  have e : msv a b 16 = rv (a * b / 65536) := rfl
  rw [e, rv_i64 h1 h2]
end Go.Proofs.Ytlabeelbbkbkaaa
end
