import Derived.Test.YtlbbacmpdlghaaaJ00Bits
import Derived.WalkKit
import Derived.Laws.AppendOwn
import Derived.Deep.AppendLies
import Derived.Below
import Derived.Deep.RegionHeld3
import Derived.OpenShut
import Derived.LoopN
import Derived.Deep.QuietTactic
import Derived.BigQuiet
import Derived.Deep.LoopGhost
import Derived.Deep.DeepCutAuto

/-! J01FxRef: FxRef, Seq, WideShift, RefDivide, RefFloor, BodyRef, BodyIn, ConRow, BoxMath, SortMath. -/

section
/-
  The reference implementation of package fx: each function returns the same number as the program's.
-/
namespace Go.Proofs.Ytlbbacmpdlghaaa
open Go.RowKit Go.Lib

/-- The reference's floor, for a positive divisor. -/
theorem reffl_any (a b : Int) (ha : I64 a) (hb0 : 0 < b) (hb : b < 9223372036854775808) (w : World) :
    Calls Try.prog 25 #[.int .i64 a, .int .i64 b] w fun e w' => e = .returned (.int .i64 (a / b)) ∧ w = w' := by
  obtain ⟨h1, h2⟩ := ha
  have hbz : (b == 0) = false := by simp; omega
  have hd := Int.mul_tdiv_add_tmod a b
  have hl := Int.tmod_lt_of_pos a hb0
  have hg : -b < a.tmod b := Int.lt_tmod_of_pos a hb0
  have hn0 : 0 ≤ a → 0 ≤ a.tmod b := fun h => Int.tmod_nonneg b h
  have hn1 : a ≤ 0 → a.tmod b ≤ 0 := fun h => by
    have := Int.tmod_nonneg b (show 0 ≤ -a by omega)
    rw [Int.neg_tmod] at this; omega
  have hq0 : 0 ≤ a → 0 ≤ a.tdiv b := fun h => Int.tdiv_nonneg h (by omega)
  have hq1 : a ≤ 0 → a.tdiv b ≤ 0 := fun h => by
    have := Int.tdiv_nonneg (show 0 ≤ -a by omega) (show 0 ≤ b by omega)
    rw [Int.neg_tdiv] at this; omega
  obtain ⟨q, hq⟩ : ∃ q, q = a.tdiv b := ⟨_, rfl⟩
  obtain ⟨r, hr⟩ : ∃ r, r = a.tmod b := ⟨_, rfl⟩
  rw [← hq, ← hr] at hd
  rw [← hr] at hl hg hn0 hn1
  rw [← hq] at hq0 hq1
  have hbq : ∀ x : Int, 0 ≤ x → x ≤ b * x := fun x hx => by
    have := Int.mul_le_mul_of_nonneg_right (show 1 ≤ b by omega) hx
    omega
  have q0 : -9223372036854775808 ≤ q ∧ q < 9223372036854775808 := by
    by_cases c : 0 ≤ a
    · have := hq0 c; have := hbq q this; have := hn0 c; omega
    · have h := hq1 (by omega); have := hbq (-q) (by omega); rw [Int.mul_neg] at this; have := hn1 (by omega); omega
  have W1 : IntKind.i64.wrap (a.tdiv b) = q := by rw [← hq, IntKind.wrap_i64]; omega
  have W2 : IntKind.i64.wrap (a.tmod b) = r := by rw [← hr, IntKind.wrap_i64]; omega
  have W3 : wrap64 (a.tdiv b) = q := by rw [← hq]; unfold wrap64; omega
  have W4 : wrap64 (a.tmod b) = r := by rw [← hr]; unfold wrap64; omega
  have hq' := hq.symm; have hr' := hr.symm
  clear hq hr hbq hn0 hn1 hq0 hq1
  by_cases c : r < 0
  · have e : a / b = q - 1 := by
      rw [Int.ediv_eq_iff_of_pos hb0, Int.sub_mul, Int.mul_comm q b]; omega
    have q2 : -9223372036854775808 ≤ q - 1 := by
      by_cases c2 : b = 1
      · subst c2; omega
      · have hbq2 : ∀ x : Int, 0 ≤ x → 2 * x ≤ b * x := fun x hx => Int.mul_le_mul_of_nonneg_right (show 2 ≤ b by omega) hx
        by_cases c3 : 0 ≤ q
        · omega
        · have := hbq2 (-q) (by omega); rw [Int.mul_neg b q] at this; omega
    rw [e]
    clear e hd
    go_enter Try.func25, Try.ntmps25
    go_wp2
    go_ret
    exact ⟨rfl, rfl⟩
  · have e : a / b = q := by
      rw [Int.ediv_eq_iff_of_pos hb0, Int.mul_comm q b]; omega
    rw [e]
    clear e hd
    go_enter Try.func25, Try.ntmps25
    go_wp2
    go_ret
    exact ⟨rfl, rfl⟩

/-- What Div returns: the floor, saturated, and the error. -/
def dq (a b : Int) : Int := if b = 0 then 0 else sat (fl (a * 65536) b)
def de (b : Int) : Int := if b = 0 then 2 else 0

theorem fl_bd (n b : Int) (hb : b ≠ 0) (h1 : -140737488355328 ≤ n) (h2 : n ≤ 140737488355328) : -140737488355328 ≤ fl n b ∧ fl n b ≤ 140737488355328 := by
  have k : ∀ m c : Int, 0 < c → -140737488355328 ≤ m → m ≤ 140737488355328 → -140737488355328 ≤ m / c ∧ m / c ≤ 140737488355328 := fun m c hc a b => by
    constructor
    · rw [Int.le_ediv_iff_mul_le hc]
      have := Int.mul_le_mul_of_nonneg_left (show 1 ≤ c by omega) (show (0 : Int) ≤ 140737488355328 by decide)
      omega
    · have := Int.ediv_le_ediv hc b
      refine Int.le_trans this ?_
      exact Int.ediv_le_self c (by decide)
  unfold fl
  split
  · exact k (-n) (-b) (by omega) (by omega) (by omega)
  · exact k n b (by omega) h1 h2

theorem div_val (a b : Int) (ha : I32 a) : sat (mdv a 65536 b) = dq a b ∧ mde a 65536 b = de b := by
  obtain ⟨h1, h2⟩ := ha
  unfold mdv mde dq de
  by_cases h0 : b = 0
  · subst h0; rw [if_pos rfl, if_pos rfl, if_pos rfl, if_pos rfl]; exact ⟨by decide, rfl⟩
  · have hf := fl_bd (a * 65536) b h0 (by omega) (by omega)
    have hi : I64 (fl (a * 65536) b) := ⟨by omega, by omega⟩
    rw [if_neg h0, if_neg h0, if_neg h0, if_neg h0, rv_in hi, re_in hi]
    exact ⟨rfl, rfl⟩

end Go.Proofs.Ytlbbacmpdlghaaa
end

section
/-
  Slices that read as lists, for elements of any kind; a slice of the call's own appended to (no program).
-/
namespace Go.Proofs.Ytlbbacmpdlghaaa
open Go.RowKit Go.Lib

/-- A step of a region by hand: what yields in every world that meets S. -/
theorem rtk {P : Program} {ops : Array Oper} {Q : Exit → Act → World → Prop} {md : Region.Mode} {S : World → Prop} (i : Nat) {oi : Oper} {v : Value} {fuel : Nat} {listed : Array Bool} {a : Act} {w : World} (hi : ops[i]? = some oi)
    (hv : ∀ w, S w → (execOp a.eval oi).run P w = .ok (.value v) w) (hS : S w) (h : wpAnyH P md ops Q S fuel (listed.setIfInBounds i true) (a.put oi.dst v) w)
    (hw : Region.wanted oi (yielded ops a.tmps) = true := by rfl) (hs : Region.noSelect ops = true := by kernel_rfl) (hf : Region.free md ops listed i = true := by kernel_rfl) (hr : (Region.ready md ops listed).contains i = true := by kernel_rfl)
    (hQ : ∀ c a w, Q (.panic c) (a.put oi.dst v) w → Q (.panic c) a w := by exact fun _ _ _ h => h) : wpAnyH P md ops Q S (fuel + 1) listed a w :=
  wpAnyH_take hi hs hf hr hQ (Or.inl ⟨hw, hv⟩) hS h
/-- The same, of a step that is not wanted. -/
theorem rtu {P : Program} {ops : Array Oper} {Q : Exit → Act → World → Prop} {md : Region.Mode} {S : World → Prop} (i : Nat) {oi : Oper} {fuel : Nat} {listed : Array Bool} {a : Act} {w : World} (hi : ops[i]? = some oi)
    (hS : S w) (h : wpAnyH P md ops Q S fuel (listed.setIfInBounds i true) (a.put oi.dst undef) w)
    (hw : Region.wanted oi (yielded ops a.tmps) = false := by rfl) (hs : Region.noSelect ops = true := by kernel_rfl) (hf : Region.free md ops listed i = true := by kernel_rfl) (hr : (Region.ready md ops listed).contains i = true := by kernel_rfl)
    (hQ : ∀ c a w, Q (.panic c) (a.put oi.dst undef) w → Q (.panic c) a w := by exact fun _ _ _ h => h) : wpAnyH P md ops Q S (fuel + 1) listed a w :=
  wpAnyH_take hi hs hf hr hQ (Or.inr ⟨hw, rfl⟩) hS h
/-- The value v is a slice of the elements of L: the cells of x read as f x. -/
def Sq {α : Type} (f : α → List Value) (n : Nat) (w : World) (v : Value) (L : List α) : Prop :=
  ∃ base cap, v = .slice base L.length cap ∧ ∀ (k : Nat) (x : α), L[k]? = some x → ∃ g off, base = some ⟨g, off, none⟩ ∧ ∀ (i : Nat) (u : Value), (f x)[i]? = some u → w.cell? ⟨g, off + k * n + i, none⟩ = some u
theorem Sq.kep {α : Type} {f : α → List Value} {n : Nat} {w w' : World} {v : Value} {L : List α} (h : Sq f n w v L) (g : Kep w.heap.size w w') : Sq f n w' v L := by
  obtain ⟨base, cap, rfl, hc⟩ := h
  refine ⟨base, cap, rfl, fun k x hx => ?_⟩
  obtain ⟨b, off, e, hi⟩ := hc k x hx
  exact ⟨b, off, e, fun i u hu => g.all (hi i u hu)⟩
theorem Sq.nil {α : Type} {f : α → List Value} {n : Nat} {w : World} {base : Option Addr} {cap : Nat} : Sq f n w (.slice base 0 cap) ([] : List α) := ⟨base, cap, rfl, fun k x hx => by simp at hx⟩
theorem Sq.shape {α : Type} {f : α → List Value} {n : Nat} {w : World} {v : Value} {L : List α} (h : Sq f n w v L) : ∃ base cap, v = .slice base L.length cap := by
  obtain ⟨b, c, e, _⟩ := h
  exact ⟨b, c, e⟩
theorem cat_get {α : Type} {f : α → List Value} {n : Nat} (hf : ∀ x, (f x).length = n) : ∀ (s : List α) (k : Nat) (b : α), s[k]? = some b → ∀ i, i < n → (s.flatMap f)[k * n + i]? = (f b)[i]?
  | [], _, _, h, _, _ => by simp at h
  | x :: s, 0, b, h, i, hi => by
    simp at h
    subst h
    simp only [List.flatMap_cons]
    rw [List.getElem?_append_left (by rw [hf]; omega)]
    simp
  | x :: s, k + 1, b, h, i, hi => by
    have e := cat_get hf s k b (by simpa using h) i hi
    simp only [List.flatMap_cons]
    rw [List.getElem?_append_right (by rw [hf, Nat.succ_mul]; omega), hf, show (k + 1) * n + i - n = k * n + i by rw [Nat.succ_mul]; omega]
    exact e
theorem cat_len {α : Type} {f : α → List Value} {n : Nat} (hf : ∀ x, (f x).length = n) : ∀ (s : List α), (s.flatMap f).length = s.length * n
  | [] => by simp
  | x :: s => by rw [List.flatMap_cons, List.length_append, hf, cat_len hf s, List.length_cons, Nat.succ_mul]; omega
theorem own_sq {α : Type} {f : α → List Value} {n : Nat} (hf : ∀ x, (f x).length = n) {w : World} {B : Nat} {t : TypeId} {v : Value} {s : List α} (h : w.ownsRow B t n v s.length (s.flatMap f)) : Sq f n w v s := by
  obtain ⟨_, ⟨rfl, h0⟩ | ⟨g, cap, cur, rfl, _, hg, hn, _, hs, hc⟩⟩ := h
  · have e := List.length_eq_zero_iff.1 h0
    subst e
    exact Sq.nil
  · refine ⟨_, cap, rfl, fun k b hb => ⟨g, 0, rfl, fun i u hu => ?_⟩⟩
    have hk : k < s.length := (List.getElem?_eq_some_iff.1 hb).1
    have hi : i < n := by have := (List.getElem?_eq_some_iff.1 hu).1; rwa [hf] at this
    rw [← cat_get hf s k b hb i hi, ← hc] at hu
    have hlt : k * n + i < s.length * n := by
      have := Nat.mul_le_mul_right n (Nat.succ_le_of_lt hk)
      rw [Nat.succ_mul] at this
      omega
    rw [List.getElem?_take_of_lt hlt] at hu
    simp only [World.cell?, hg, Nat.zero_add]
    simpa using hu
/-- Where what the slice v lies in is new. -/
theorem own_blk {w : World} {B : Nat} {t : TypeId} {size n : Nat} {v : Value} {xs : List Value} (h : w.ownsRow B t size v n xs) : ∀ g, v.ownBlock = some g → B ≤ g ∧ g < w.heap.size := h.lt
/-- An element appended to a slice of the call's own. -/
theorem wpList_app {α : Type} (f : α → List Value) (n : Nat) (hf : ∀ x, (f x).length = n) (h1 : ∀ x, ∀ u ∈ f x, u.oneCell' = true) {P : Program} {ops : Array Oper} {rest : List Oper} {o : Oper} {a : Act} {Q : Exit → Act → World → Prop} (hgd : o.guard = none) (s x : Operand) (t : TypeId)
    (ho : o.op = .call { callee := .builtin .append, args := #[s, x], argTypes := #[t, t] }) (e : TypeId) (z : Value) (bytes : Nat) (ht : P.underlying t = some (.slice e))
    (hi : (P.info? e).map (fun i => (i.zero, i.size, i.bytes)) = some (some z, n, bytes)) (hzs : z.cells.size = n) (hn : 0 < n)
    (B : Nat) (W : World) (v : Value) (L : List α) (y : α) (hs : a.eval s = v) (hown : W.ownsRow B e n v L.length (L.flatMap f)) (b : Nat) (hb : b = W.heap.size) (hx : a.eval x = .slice (some ⟨b, 0, none⟩) 1 1)
    (cs : Array Value) (hcs : cs.toList = f y) (hl : L.length + 1 ≤ maxLen) (hby : (L.length + 1) * bytes ≤ 140737488355328) (hB : B ≤ W.heap.size)
    (h : ∀ v' w', w'.ownsRow B e n v' (L ++ [y]).length ((L ++ [y]).flatMap f) → Kep B W w' → wpList P ops Q rest (a.put o.dst v') w') : wpList P ops Q (o :: rest) a (W.alloc (.cells cs e)) := by
  subst hb
  obtain ⟨i0, hi0, hz0, hz1, hz2⟩ := info_parts hi
  refine wpList_append_own _ hgd s x t ho B e i0 z n bytes ht hi0 hz0 hz1 hz2 hzs hn v L.length (L.flatMap f) hs (hown.alloc _) ⟨_, 0, none⟩ 1 1 (f y) hx (by rw [hf]; omega) (fun j u hu => ?_) (h1 y) hl hby (by simp; omega) fun v' w' h2 h3 _ => h v' w' ?_ ?_
  · have q : ((⟨W.heap.size, 0, none⟩ : Addr).add j) = ⟨W.heap.size, j, none⟩ := by simp [Addr.add]; exact Eq.symm
    rw [q, World.cell?_alloc_at _ _ _ _ rfl]
    rw [← hcs] at hu
    simpa using hu
  · simpa using h2
  · exact ((Kep.refl B W).alloc hB _).row h3 (by simp; omega) (fun k q => (hown.lt k q).1)
/-- As wpList_app, at a step of a region that draws its order. -/
theorem step_app {α : Type} (f : α → List Value) (n : Nat) (hf : ∀ x, (f x).length = n) (h1 : ∀ x, ∀ u ∈ f x, u.oneCell' = true) {P : Program} {ops : Array Oper} {o : Oper} {a : Act} {K : Act → World → Prop} {Q : Exit → Act → World → Prop} {E : Prop} (hgd : o.guard = none) (s x : Operand) (t : TypeId)
    (ho : o.op = .call { callee := .builtin .append, args := #[s, x], argTypes := #[t, t] }) (e : TypeId) (z : Value) (bytes : Nat) (ht : P.underlying t = some (.slice e))
    (hi : (P.info? e).map (fun i => (i.zero, i.size, i.bytes)) = some (some z, n, bytes)) (hzs : z.cells.size = n) (hn : 0 < n)
    (B : Nat) (W : World) (v : Value) (L : List α) (y : α) (hs : a.eval s = v) (hown : W.ownsRow B e n v L.length (L.flatMap f)) (b : Nat) (hb : b = W.heap.size) (hx : a.eval x = .slice (some ⟨b, 0, none⟩) 1 1)
    (cs : Array Value) (hcs : cs.toList = f y) (hl : L.length + 1 ≤ maxLen) (hby : (L.length + 1) * bytes ≤ 140737488355328) (hB : B ≤ W.heap.size)
    (h : ∀ v' w', w'.ownsRow B e n v' (L ++ [y]).length ((L ++ [y]).flatMap f) → Kep B (W.alloc (.cells cs e)) w' → K (a.put o.dst v') w') : if Region.wanted o (yielded ops a.tmps) = true then Oper.wp P o a (W.alloc (.cells cs e)) K Q else E := by
  subst hb
  obtain ⟨i0, hi0, hz0, hz1, hz2⟩ := info_parts hi
  refine step_append_lies _ hgd s x t ho B e i0 z n bytes ht hi0 hz0 hz1 hz2 hzs hn v L.length (L.flatMap f) hs (hown.alloc _) ⟨_, 0, none⟩ 1 1 (f y) hx (by rw [hf]; omega) (fun j u hu => ?_) (h1 y) (by decide) hl hby (by simp; omega) _ rfl fun g cap w' h2 h3 _ _ => h _ w' ?_ ?_
  · have q : ((⟨W.heap.size, 0, none⟩ : Addr).add j) = ⟨W.heap.size, j, none⟩ := by simp [Addr.add]; exact Eq.symm
    rw [q, World.cell?_alloc_at _ _ _ _ rfl]
    rw [← hcs] at hu
    simpa using hu
  · simpa using h2
  · exact (Kep.refl B _).row h3 (by simp; omega) (fun k q => (hown.lt k q).1)
theorem own_drewN {w : World} {base : Nat} {e : TypeId} {size : Nat} {v : Value} {m n : Nat} {xs : List Value} (h : w.ownsRow base e size v n xs) : (w.drewN m).ownsRow base e size v n xs := h
theorem kep_drewN {B : Nat} {a w : World} (h : Kep B a w) (m : Nat) : Kep B a (w.drewN m) := ⟨h.os, h.output, h.size, h.block⟩
/-- What a slice owns it owns where the blocks from B on are as they were. -/
theorem own_kep {w w' : World} {B B' : Nat} {e : TypeId} {size n : Nat} {v : Value} {xs : List Value} (h : w.ownsRow B e size v n xs) (k : Kep B' w w') (hb : w.heap.size ≤ B') : w'.ownsRow B e size v n xs := by
  refine ⟨h.1, ?_⟩
  rcases h.2 with hn | ⟨g, cap, cur, rfl, hg, hgg, rest⟩
  · exact .inl hn
  · refine .inr ⟨g, cap, cur, rfl, hg, ?_, rest⟩
    have hlt : g < w.heap.size := (Array.getElem?_eq_some_iff.1 hgg).1
    rw [k.block g (by omega)]
    exact hgg
theorem kep_next {a b c : World} (h : Kep a.heap.size a b) (k : Kep b.heap.size b c) : Kep a.heap.size a c := h.trans (k.mono h.size)
theorem kep_more {a b : World} (h : Kep a.heap.size a b) (o : Obj) : Kep a.heap.size a (b.alloc o) := h.alloc h.size o
theorem kep_drew {a b : World} (h : Kep a.heap.size a b) : Kep a.heap.size a b.drew := h.drew
theorem wrap_ib {n q : Int} (h : wrap32 n = q) : IntKind.i32.wrap n = q := by rw [← h, IntKind.wrap_i32]; unfold wrap32; rfl
/-- A contract that says Grown says Kep. -/
theorem kep_calls {P : Program} {f : Nat} {args : Array Value} {V : Ending} {w : World} (h : Calls P f args w fun e w' => e = V ∧ Grown w w') : Calls P f args w fun e w' => e = V ∧ Kep w.heap.size w w' := h.mono fun _ _ h => ⟨h.1, Kep.of_grown h.2⟩
/-- A slice laid down at once. -/
theorem sq_new {α : Type} {f : α → List Value} {n : Nat} (hf : ∀ x, (f x).length = n) (W : World) (L : List α) (cs : Array Value) (hcs : cs.toList = L.flatMap f) (t : TypeId) (b : Nat) (hb : b = W.heap.size) (m cap : Nat) (hm : m = L.length) : Sq f n (W.alloc (.cells cs t)) (.slice (some ⟨b, 0, none⟩) m cap) L := by
  subst hb hm
  refine ⟨_, cap, rfl, fun k x hx => ⟨_, 0, rfl, fun i u hu => ?_⟩⟩
  have hi : i < n := by have := (List.getElem?_eq_some_iff.1 hu).1; rwa [hf] at this
  rw [← cat_get hf L k x hx i hi, ← hcs] at hu
  rw [World.cell?_alloc_at _ _ _ _ rfl, Nat.zero_add]
  simpa using hu
/-- As Kep, with the tape: what a call that an iterator makes must say. -/
abbrev Bel (w w' : World) : Prop := Below w.heap.size w w'
theorem bel_next {a b c : World} (h : Bel a b) (k : Bel b c) : Bel a c := h.trans (k.mono h.size)
theorem bel_more {a b : World} (h : Bel a b) (o : Obj) : Bel a (b.alloc o) := h.alloc h.size o
theorem bel_drew {a b : World} (h : Bel a b) : Bel a b.drew := h.drew
theorem bel_set {a b : World} (h : Bel a b) {p : Addr} (hp : a.heap.size ≤ p.block) (u : Value) : Bel a (b.setCell p u) := h.setCell hp u
theorem bel_all {w w' : World} (h : Bel w w') {a : Addr} {v : Value} (hv : w.cell? a = some v) : w'.cell? a = some v := (h.cell (p := a) (World.block_lt_of_cell? _ _ hv)).trans hv
theorem bel_grown {w w' : World} (h : Bel w w') : w.grownBy w' none := ⟨h.os, h.tape, h.output, h.size, fun k hk _ => h.block k hk⟩
/-- A contract that says Bel says Kep. -/
theorem bel_calls {P : Program} {f : Nat} {args : Array Value} {V : Ending} {w : World} (h : Calls P f args w fun e w' => e = V ∧ Bel w w') : Calls P f args w fun e w' => e = V ∧ Kep w.heap.size w w' := h.mono fun _ _ h => ⟨h.1, Kep.of_below h.2⟩
theorem bel_frozen {W w1 : World} (g : Bel W w1) {b o : Nat} (h : W.frozen? ⟨b, o, none⟩ = false) (hb : b < W.heap.size) : w1.frozen? ⟨b, o, none⟩ = false := (World.frozen?_of_block (w := W) (g.block b hb)).trans h
theorem some_lt {w : World} {a : Addr} (h : (w.cell? a).isSome = true) : a.block < w.heap.size := by
  obtain ⟨u, hu⟩ := Option.isSome_iff_exists.1 h
  exact World.block_lt_of_cell? _ _ hu
theorem kep_some {w w' : World} (g : Kep w.heap.size w w') {a : Addr} (h : (w.cell? a).isSome = true) : (w'.cell? a).isSome = true := by rw [g.cell (some_lt h)]; exact h
theorem kep_froz {w w' : World} (g : Kep w.heap.size w w') {a : Addr} (s : (w.cell? a).isSome = true) (h : w.frozen? a = false) : w'.frozen? a = false := by rw [g.frozen (some_lt s)]; exact h
theorem bel_some {w w' : World} (g : Bel w w') {a : Addr} (h : (w.cell? a).isSome = true) : (w'.cell? a).isSome = true := kep_some (Kep.of_below g) h
theorem bel_froz {w w' : World} (g : Bel w w') {a : Addr} (s : (w.cell? a).isSome = true) (h : w.frozen? a = false) : w'.frozen? a = false := kep_froz (Kep.of_below g) s h
theorem kep_set {a b : World} (h : Kep a.heap.size a b) {p : Addr} (hp : a.heap.size ≤ p.block) (u : Value) : Kep a.heap.size a (b.setCell p u) := h.setCell hp u
theorem sset_some {W : World} (a b : Addr) (v : Value) (h : (W.cell? b).isSome = true) : ((W.setCell a v).cell? b).isSome = true := by
  by_cases c : a = b
  · subst c; rw [World.cell?_setCell_same' _ _ _ h]; rfl
  · rw [World.cell?_setCell_other (h := c)]; exact h
theorem sset_far {W : World} {p a : Addr} {v u : Value} (h : W.cell? a = some u) (c : p.block ≠ a.block) : (W.setCell p v).cell? a = some u := by
  rw [World.cell?_setCell_far _ _ _ _ c]; exact h
theorem sset_froz {W : World} {p a : Addr} {v : Value} (h : W.frozen? a = false) : (W.setCell p v).frozen? a = false := by
  rw [World.frozen?_setCell]; exact h
/-- A slice is no longer than its room. -/
def Rmy (v : Value) : Prop := ∀ b n c, v = .slice b n c → n ≤ c
theorem own_rmy {w : World} {B : Nat} {t : TypeId} {size n : Nat} {v : Value} {xs : List Value} (h : w.ownsRow B t size v n xs) : Rmy v := fun b m c e => by
  rcases h.2 with ⟨rfl, _⟩ | ⟨g, cap, cur, rfl, _, _, hc, _⟩
  · injection e with _ e1 e2
    omega
  · injection e with _ e1 e2
    omega
theorem add_off (g off j : Nat) : (⟨g, off, none⟩ : Addr).add j = ⟨g, off + j, none⟩ := by unfold Addr.add; split <;> simp_all
/-- The cells of a slice, one after another. -/
theorem Sq.cells {α : Type} {f : α → List Value} {n : Nat} (hf : ∀ x, (f x).length = n) {w : World} {a : Addr} {m cap : Nat} {D : List α} (h : Sq f n w (.slice (some a) m cap) D) : ∀ (j : Nat) (u : Value), (D.flatMap f)[j]? = some u → w.cell? (a.add j) = some u := fun j u hu => by
  obtain ⟨base, c, e, hc⟩ := h
  injection e with e1 e2 e3
  have hj : j < (D.flatMap f).length := (List.getElem?_eq_some_iff.1 hu).1
  rw [cat_len hf] at hj
  have hn : 0 < n := by
    rcases Nat.eq_zero_or_pos n with rfl | h
    · simp at hj
    · exact h
  have hk : j / n < D.length := (Nat.div_lt_iff_lt_mul hn).2 hj
  obtain ⟨g, off, e4, hi⟩ := hc (j / n) _ (List.getElem?_eq_getElem hk)
  rw [e4] at e1
  injection e1 with e1
  have hd : j / n * n + j % n = j := by rw [Nat.mul_comm]; exact Nat.div_add_mod j n
  have q := cat_get hf D (j / n) _ (List.getElem?_eq_getElem hk) (j % n) (Nat.mod_lt _ hn)
  rw [hd, hu] at q
  have r := hi (j % n) u q.symm
  rw [e1, add_off]
  rw [show off + j / n * n + j % n = off + j by omega] at r
  exact r
/-- A whole list appended to a slice of the call's own. -/
theorem wpList_appAll {α : Type} (f : α → List Value) (n : Nat) (hf : ∀ x, (f x).length = n) (h1 : ∀ x, ∀ u ∈ f x, u.oneCell' = true) {P : Program} {ops : Array Oper} {rest : List Oper} {o : Oper} {a : Act} {Q : Exit → Act → World → Prop} (hgd : o.guard = none) (s x : Operand) (t : TypeId)
    (ho : o.op = .call { callee := .builtin .append, args := #[s, x], argTypes := #[t, t] }) (e : TypeId) (z : Value) (bytes : Nat) (ht : P.underlying t = some (.slice e))
    (hi : (P.info? e).map (fun i => (i.zero, i.size, i.bytes)) = some (some z, n, bytes)) (hzs : z.cells.size = n) (hn : 0 < n)
    (B : Nat) (W : World) (v vx : Value) (L D : List α) (hs : a.eval s = v) (hown : W.ownsRow B e n v L.length (L.flatMap f)) (hx : a.eval x = vx) (hq : Sq f n W vx D) (hl : L.length + D.length ≤ maxLen) (hby : (L.length + D.length) * bytes ≤ 140737488355328) (hB : B ≤ W.heap.size)
    (h : ∀ v' w', w'.ownsRow B e n v' (L ++ D).length ((L ++ D).flatMap f) → Kep B W w' → wpList P ops Q rest (a.put o.dst v') w') : wpList P ops Q (o :: rest) a W := by
  obtain ⟨i0, hi0, hz0, hz1, hz2⟩ := info_parts hi
  obtain ⟨base, cap, rfl⟩ := hq.shape
  cases base with
  | some ad =>
    refine wpList_append_own _ hgd s x t ho B e i0 z n bytes ht hi0 hz0 hz1 hz2 hzs hn v L.length (L.flatMap f) hs hown ad D.length cap (D.flatMap f) hx (cat_len hf D) (hq.cells hf) (fun u hu => ?_) hl hby hB fun v' w' h2 h3 _ => h v' w' ?_ ?_
    · obtain ⟨y, _, hy⟩ := List.mem_flatMap.1 hu
      exact h1 y u hy
    · simpa using h2
    · exact (Kep.refl B W).row h3 hB (fun k q => (hown.lt k q).1)
  | none =>
    have hD : D = [] := by
      cases D with
      | nil => rfl
      | cons y D =>
        obtain ⟨_, _, e0, hc⟩ := hq
        injection e0 with e1
        obtain ⟨g, off, e2, _⟩ := hc 0 y rfl
        rw [← e1] at e2
        cases e2
    subst hD
    have hr : (Builtin.append_ #[t, t] o.type #[v, .slice none 0 cap]).run P W = .ok v W := by
      rcases hown.2 with ⟨rfl, _⟩ | ⟨g, cp, cur, rfl, _, _, hc, _⟩
      · simp [Builtin.append_, run_underlying ht, sizeOf, typeInfo, hi0, Builtin.lenOf, Builtin.firstCells]
      · simp [Builtin.append_, run_underlying ht, sizeOf, typeInfo, hi0, Builtin.lenOf, run_firstCells_none, storeCells, hc]
    refine wpList_plain hgd fun K hK => ?_
    unfold Oper.wp execOp
    simp only [ho, resolve, invoke, builtin, Sem.run_bind, Sem.run_pure, Result.andThen_ok, List.map_toArray, List.map_cons, List.map_nil, hs, hx, List.length_nil, hr]
    exact hK _ _ (h v W (by simpa using hown) (Kep.refl _ _))
/-- As wpList_appAll, at a step of a region that draws its order. -/
theorem step_appAll {α : Type} (f : α → List Value) (n : Nat) (hf : ∀ x, (f x).length = n) (h1 : ∀ x, ∀ u ∈ f x, u.oneCell' = true) {P : Program} {ops : Array Oper} {o : Oper} {a : Act} {K : Act → World → Prop} {Q : Exit → Act → World → Prop} {E : Prop} (hgd : o.guard = none) (s x : Operand) (t : TypeId)
    (ho : o.op = .call { callee := .builtin .append, args := #[s, x], argTypes := #[t, t] }) (e : TypeId) (z : Value) (bytes : Nat) (ht : P.underlying t = some (.slice e))
    (hi : (P.info? e).map (fun i => (i.zero, i.size, i.bytes)) = some (some z, n, bytes)) (hzs : z.cells.size = n) (hn : 0 < n)
    (B : Nat) (W : World) (v vx : Value) (L D : List α) (hs : a.eval s = v) (hown : W.ownsRow B e n v L.length (L.flatMap f)) (hx : a.eval x = vx) (hq : Sq f n W vx D) (hl : L.length + D.length ≤ maxLen) (hby : (L.length + D.length) * bytes ≤ 140737488355328) (hB : B ≤ W.heap.size)
    (h : ∀ v' w', w'.ownsRow B e n v' (L ++ D).length ((L ++ D).flatMap f) → Kep B W w' → K (a.put o.dst v') w') : if Region.wanted o (yielded ops a.tmps) = true then Oper.wp P o a W K Q else E := by
  have hw : Region.wanted o (yielded ops a.tmps) = true := by simp [Region.wanted, hgd]
  rw [if_pos hw]
  obtain ⟨i0, hi0, hz0, hz1, hz2⟩ := info_parts hi
  obtain ⟨base, cap, rfl⟩ := hq.shape
  cases base with
  | some ad =>
    refine wp_append_own _ s x t ho B e i0 z n bytes ht hi0 hz0 hz1 hz2 hzs hn v L.length (L.flatMap f) hs hown ad D.length cap (D.flatMap f) hx (cat_len hf D) (hq.cells hf) (fun u hu => ?_) hl hby hB fun v' w' h2 h3 _ => h v' w' ?_ ?_
    · obtain ⟨y, _, hy⟩ := List.mem_flatMap.1 hu
      exact h1 y u hy
    · simpa using h2
    · exact (Kep.refl B W).row h3 hB (fun k q => (hown.lt k q).1)
  | none =>
    have hD : D = [] := by
      cases D with
      | nil => rfl
      | cons y D =>
        obtain ⟨_, _, e0, hc⟩ := hq
        injection e0 with e1
        obtain ⟨g, off, e2, _⟩ := hc 0 y rfl
        rw [← e1] at e2
        cases e2
    subst hD
    have hr : (Builtin.append_ #[t, t] o.type #[v, .slice none 0 cap]).run P W = .ok v W := by
      rcases hown.2 with ⟨rfl, _⟩ | ⟨g, cp, cur, rfl, _, _, hc, _⟩
      · simp [Builtin.append_, run_underlying ht, sizeOf, typeInfo, hi0, Builtin.lenOf, Builtin.firstCells]
      · simp [Builtin.append_, run_underlying ht, sizeOf, typeInfo, hi0, Builtin.lenOf, run_firstCells_none, storeCells, hc]
    unfold Oper.wp execOp
    simp only [ho, resolve, invoke, builtin, Sem.run_bind, Sem.run_pure, Result.andThen_ok, List.map_toArray, List.map_cons, List.map_nil, hs, hx, List.length_nil, hr]
    exact (h v W (by simpa using hown) (Kep.refl _ _))
theorem sq_zero {α : Type} {f : α → List Value} {n : Nat} {w : World} {L : List α} {b : Option Addr} {m c : Nat} (hl : L = []) (hm : m = 0) : Sq f n w (.slice b m c) L := by
  subst hl hm
  exact Sq.nil
/-- A list without its first k elements. -/
theorem sq_drop {α : Type} {f : α → List Value} {n : Nat} {w : World} {L : List α} {g off len k c : Nat} (hl : L.length = len) (hc : ∀ (k : Nat) (x : α), L[k]? = some x → ∃ g' off', (some ⟨g, off, none⟩ : Option Addr) = some ⟨g', off', none⟩ ∧ ∀ (i : Nat) (u : Value), (f x)[i]? = some u → w.cell? ⟨g', off' + k * n + i, none⟩ = some u) :
    Sq f n w (.slice (some ⟨g, off + k * n, none⟩) (len - k) c) (L.drop k) := by
  refine ⟨_, c, by rw [List.length_drop, hl], fun j x hx => ⟨g, off + k * n, rfl, fun i u hu => ?_⟩⟩
  rw [List.getElem?_drop] at hx
  obtain ⟨g', off', e, hi⟩ := hc (k + j) x hx
  injection e with e
  injection e with e1 e2
  subst e1 e2
  have := hi i u hu
  rw [Nat.add_mul, ← Nat.add_assoc] at this
  exact this
/-- As wpList_app, with what becomes of every block but the list's own. -/
theorem wpList_app2 {α : Type} (f : α → List Value) (n : Nat) (hf : ∀ x, (f x).length = n) (h1 : ∀ x, ∀ u ∈ f x, u.oneCell' = true) {P : Program} {ops : Array Oper} {rest : List Oper} {o : Oper} {a : Act} {Q : Exit → Act → World → Prop} (hgd : o.guard = none) (s x : Operand) (t : TypeId)
    (ho : o.op = .call { callee := .builtin .append, args := #[s, x], argTypes := #[t, t] }) (e : TypeId) (z : Value) (bytes : Nat) (ht : P.underlying t = some (.slice e))
    (hi : (P.info? e).map (fun i => (i.zero, i.size, i.bytes)) = some (some z, n, bytes)) (hzs : z.cells.size = n) (hn : 0 < n)
    (B : Nat) (W : World) (v : Value) (L : List α) (y : α) (hs : a.eval s = v) (hown : W.ownsRow B e n v L.length (L.flatMap f)) (b : Nat) (hb : b = W.heap.size) (hx : a.eval x = .slice (some ⟨b, 0, none⟩) 1 1)
    (cs : Array Value) (hcs : cs.toList = f y) (hl : L.length + 1 ≤ maxLen) (hby : (L.length + 1) * bytes ≤ 140737488355328) (hB : B ≤ W.heap.size)
    (h : ∀ v' w', w'.ownsRow B e n v' (L ++ [y]).length ((L ++ [y]).flatMap f) → Kep B W w' → (W.alloc (.cells cs e)).grownBy w' v.ownBlock → wpList P ops Q rest (a.put o.dst v') w') : wpList P ops Q (o :: rest) a (W.alloc (.cells cs e)) := by
  subst hb
  obtain ⟨i0, hi0, hz0, hz1, hz2⟩ := info_parts hi
  refine wpList_append_own _ hgd s x t ho B e i0 z n bytes ht hi0 hz0 hz1 hz2 hzs hn v L.length (L.flatMap f) hs (hown.alloc _) ⟨_, 0, none⟩ 1 1 (f y) hx (by rw [hf]; omega) (fun j u hu => ?_) (h1 y) hl hby (by simp; omega) fun v' w' h2 h3 _ => h v' w' ?_ ?_ h3
  · have q : ((⟨W.heap.size, 0, none⟩ : Addr).add j) = ⟨W.heap.size, j, none⟩ := by simp [Addr.add]; exact Eq.symm
    rw [q, World.cell?_alloc_at _ _ _ _ rfl]
    rw [← hcs] at hu
    simpa using hu
  · simpa using h2
  · exact ((Kep.refl B W).alloc hB _).row h3 (by simp; omega) (fun k q => (hown.lt k q).1)
/-- Lists of elements of different types lie apart. -/
theorem own_apart {w : World} {b b' s s' n n' : Nat} {e e' : TypeId} {v v' : Value} {xs xs' : List Value} (h : w.ownsRow b e s v n xs) (k : w.ownsRow b' e' s' v' n' xs') (hne : e ≠ e') : v.ownBlock = none ∨ v.ownBlock ≠ v'.ownBlock := by
  rcases h.2 with ⟨rfl, _⟩ | ⟨g, cap, cur, rfl, _, hg, _⟩
  · exact .inl rfl
  · refine .inr fun q => ?_
    rcases k.2 with ⟨rfl, _⟩ | ⟨g', cap', cur', rfl, _, hg', _⟩
    · simp [Value.ownBlock] at q
    · simp [Value.ownBlock] at q
      subst q
      rw [hg] at hg'
      injection hg' with hg'
      injection hg' with _ e1 _
      exact hne e1
/-- A list of lists: each is a slice. -/
abbrev Sl := Option Addr × Nat × Nat
def sv (s : Sl) : List Value := [.slice s.1 s.2.1 s.2.2]
theorem sv_len (s : Sl) : (sv s).length = 1 := rfl
theorem sv_one (s : Sl) : ∀ u ∈ sv s, u.oneCell' = true := by
  intro u hu
  simp only [sv, List.mem_cons, List.not_mem_nil, or_false] at hu
  subst hu
  rfl
theorem own_slice {w : World} {B : Nat} {t : TypeId} {size n : Nat} {v : Value} {xs : List Value} (h : w.ownsRow B t size v n xs) : ∃ s : Sl, v = .slice s.1 s.2.1 s.2.2 ∧ s.2.1 = n := by
  rcases h.2 with ⟨rfl, rfl⟩ | ⟨g, cap, cur, rfl, _⟩
  · exact ⟨(none, 0, 0), rfl, rfl⟩
  · exact ⟨(_, _, _), rfl, rfl⟩
theorem sq_drop1 {α : Type} {f : α → List Value} {w : World} {L : List α} {g off len k c : Nat} (hl : L.length = len) (hc : ∀ (k : Nat) (x : α), L[k]? = some x → ∃ g' off', (some ⟨g, off, none⟩ : Option Addr) = some ⟨g', off', none⟩ ∧ ∀ (i : Nat) (u : Value), (f x)[i]? = some u → w.cell? ⟨g', off' + k * 1 + i, none⟩ = some u) :
    Sq f 1 w (.slice (some ⟨g, off + k, none⟩) (len - k) c) (L.drop k) := by
  have := sq_drop (k := k) (c := c) hl hc
  rw [Nat.mul_one] at this
  exact this
end Go.Proofs.Ytlbbacmpdlghaaa
end

section
/-
  Package wide: what MulShift and Mul return, for all arguments.
-/
namespace Go.Proofs.Ytlbbacmpdlghaaa
open Go.RowKit Go.Lib

theorem shift_out (a b n : Int) (hn : n < 0 ∨ 63 < n) (w : World) :
    Calls Try.prog 32 #[.int .i64 a, .int .i64 b, .int .i64 n] w fun e w' => e = .returned (.tuple #[.int .i64 0, .int .i64 1]) ∧ Grown w w' := by
  by_cases h : n < 0
  · clear hn
    go_enter Try.func32, Try.ntmps32
    go_wp2
    go_ret2
    exact ⟨rfl, Grown.refl _⟩
  · have h1 : 63 < n := by omega
    clear hn
    go_enter Try.func32, Try.ntmps32
    go_wp2
    go_ret2
    exact ⟨rfl, Grown.refl _⟩

theorem two_pow (k : Nat) (hk : k ≤ 63) : 0 < (2 : Int) ^ k ∧ (2 : Int) ^ k ≤ 9223372036854775808 := by
  have c : ((2 : Int) ^ k) = ((2 ^ k : Nat) : Int) := by rw [Int.natCast_pow]; rfl
  have h1 : 2 ^ k ≤ 2 ^ 63 := Nat.pow_le_pow_right (by omega) hk
  have h2 := Nat.two_pow_pos k
  rw [c]
  omega

set_option maxHeartbeats 1000000 in
theorem shift_in (a b n : Int) (ha : I64 a) (hb : I64 b) (hn : 0 ≤ n) (hn1 : n ≤ 63) (w : World) :
    Calls Try.prog 32 #[.int .i64 a, .int .i64 b, .int .i64 n] w fun e w' => e = .returned (.tuple #[.int .i64 (rv (a * b / 2 ^ n.toNat)), .int .i64 (re (a * b / 2 ^ n.toNat))]) ∧ Grown w w' := by
  have a0 := ha.mag0; have b0 := hb.mag0
  obtain ⟨D, hD⟩ : ∃ D : Int, D = 2 ^ n.toNat := ⟨_, rfl⟩
  have hp := two_pow n.toNat (by omega)
  rw [← hD] at hp ⊢
  have hw : IntKind.u64.wrap (2 ^ n.toNat) = D := by rw [← hD, IntKind.wrap_u64]; omega
  rw [← qs_shift a b D hp.1]
  clear hD
  have e0 : ¬ n < 0 := by omega
  have e1 : ¬ 63 < n := by omega
  go_enter Try.func32, Try.ntmps32
  go_wp2
  go_region_held3 (fun _ => True) (trivial)
    (first
      | (go_at_call_of 34 (Value.int IntKind.i64 a); refine (mag_any a ha _).mono ?_; rintro e w' ⟨rfl, rfl⟩)
      | (go_at_call_of 34 (Value.int IntKind.i64 b); refine (mag_any b hb _).mono ?_; rintro e w' ⟨rfl, rfl⟩)
      | (go_at_call 33; refine (quot_any (mag a) (mag b) D _ a0.1 a0.2 b0.1 b0.2 hp.1 hp.2 _).mono ?_; rintro e w1 ⟨rfl, hg⟩))
  go_wp2
  go_ret2
  exact ⟨rfl, hg⟩

theorem mulshift_any (a b n : Int) (ha : I64 a) (hb : I64 b) (w : World) :
    Calls Try.prog 32 #[.int .i64 a, .int .i64 b, .int .i64 n] w fun e w' => e = .returned (.tuple #[.int .i64 (msv a b n), .int .i64 (mse a b n)]) ∧ Grown w w' := by
  by_cases h : n < 0 ∨ 63 < n
  · have e1 : msv a b n = 0 := if_pos h
    have e2 : mse a b n = 1 := if_pos h
    rw [e1, e2]
    exact shift_out a b n h w
  · have e1 : msv a b n = rv (a * b / 2 ^ n.toNat) := if_neg h
    have e2 : mse a b n = re (a * b / 2 ^ n.toNat) := if_neg h
    rw [e1, e2]
    exact shift_in a b n ha hb (by omega) (by omega) w

/-- The closure, for whatever words. -/
theorem negw (n : Bool) (h l X Y : Int) (a : Addr) (w : World) (hc : w.cell? a = some (.bool n)) (h0 : 0 ≤ h) (h1 : h < 18446744073709551616) (l0 : 0 ≤ l) (l1 : l < 18446744073709551616)
    (hx : Hid (X = (if n then (-h - bor l) % 18446744073709551616 else h) ∧ Y = (if n then (-l) % 18446744073709551616 else l))) :
    Calls Try.prog 42 #[.int .u64 h, .int .u64 l, .pointer (some a)] w fun e w' => e = .returned (.tuple #[.int .u64 X, .int .u64 Y]) ∧ w = w' := by
  obtain ⟨rfl, rfl⟩ := hx.out
  cases n
  · exact neg_no h l a w hc
  · have := neg_yes h l a w hc h0 h1 l0 l1
    simpa using this

end Go.Proofs.Ytlbbacmpdlghaaa
end

section
/-
  The reference implementation of package wide: its division, bit by bit.
-/
namespace Go.Proofs.Ytlbbacmpdlghaaa
open Go.RowKit Go.Lib

theorem grown_cell {w w' : World} (h : Grown w w') {b o : Nat} {v : Value} (hb : b < w.heap.size) (hc : w.cell? ⟨b, o, none⟩ = some v) : w'.cell? ⟨b, o, none⟩ = some v := by
  rw [World.keptBut.cell h.1 hb (fun f => f), hc]

/-- A number's eight cells. -/
def Cells8 (w : World) (b : Nat) (z0 z1 z2 z3 z4 z5 z6 z7 : Int) : Prop := b < w.heap.size ∧ w.cell? ⟨b, 0, none⟩ = some (.int .u64 z0) ∧ w.cell? ⟨b, 1, none⟩ = some (.int .u64 z1) ∧ w.cell? ⟨b, 2, none⟩ = some (.int .u64 z2) ∧ w.cell? ⟨b, 3, none⟩ = some (.int .u64 z3) ∧
  w.cell? ⟨b, 4, none⟩ = some (.int .u64 z4) ∧ w.cell? ⟨b, 5, none⟩ = some (.int .u64 z5) ∧ w.cell? ⟨b, 6, none⟩ = some (.int .u64 z6) ∧ w.cell? ⟨b, 7, none⟩ = some (.int .u64 z7)
theorem Cells8.grown {w w' : World} {b : Nat} {z0 z1 z2 z3 z4 z5 z6 z7 : Int} (h : Cells8 w b z0 z1 z2 z3 z4 z5 z6 z7) (g : Grown w w') : Cells8 w' b z0 z1 z2 z3 z4 z5 z6 z7 := by
  obtain ⟨hb, c0, c1, c2, c3, c4, c5, c6, c7⟩ := h
  exact ⟨Nat.lt_of_lt_of_le hb g.2.2, grown_cell g hb c0, grown_cell g hb c1, grown_cell g hb c2, grown_cell g hb c3, grown_cell g hb c4, grown_cell g hb c5, grown_cell g hb c6, grown_cell g hb c7⟩

end Go.Proofs.Ytlbbacmpdlghaaa
end

section
/-
  The reference implementation of package wide: floor, MulDiv and MulShift return what the program's functions return.
-/
namespace Go.Proofs.Ytlbbacmpdlghaaa
open Go.RowKit Go.Lib

/-- What floor is asked for. -/
def flv (Q r : Int) (n : Bool) : Int := if n then -(Q + if 0 < r then 1 else 0) else Q

/-- The quotient of magnitudes, rounded down, by the quotient and the rest. -/
theorem flv_qs (V d : Int) (n : Bool) (hd : 0 < d) : flv (V / d) (V % d) n = qs V d n := by
  unfold flv qs
  cases n
  · rfl
  · have h0 := Int.emod_nonneg V (show d ≠ 0 by omega)
    have h1 := Int.emod_lt_of_pos V hd
    have h2 := Int.mul_ediv_add_emod V d
    have e : (V + d - 1) / d = V / d + if 0 < V % d then 1 else 0 := by
      rw [Int.ediv_eq_iff_of_pos hd, Int.add_mul, Int.mul_comm (V / d) d]
      split <;> omega
    simp [e]
end Go.Proofs.Ytlbbacmpdlghaaa
end

section
/-
  Package body: its slow reference.
-/
namespace Go.Proofs.Ytlbbacmpdlghaaa
open Go.RowKit Go.Lib

/-- The error that a body has, 0 if none. -/
def chk (r ax ay m o px py vx vy : Int) : Int :=
  if 4096 ≤ r ∧ r ≤ 4194304 then
    if (-4194304 ≤ ax ∧ ax ≤ 4194304) ∧ (-4194304 ≤ ay ∧ ay ≤ 4194304) then
      if 0 ≤ m ∧ m ≤ 1048576 then
        if 0 ≤ o ∧ o ≤ 65536 then
          if (-1073741824 ≤ px ∧ px ≤ 1073741824) ∧ (-1073741824 ≤ py ∧ py ≤ 1073741824) then
            if (-16777216 ≤ vx ∧ vx ≤ 16777216) ∧ (-16777216 ≤ vy ∧ vy ≤ 16777216) then 0 else 9
          else 8
        else 7
      else 6
    else 5
  else 4
abbrev RIn (n l : Int) (c : Bool) : Prop := ∀ w, Calls Try.prog 29 #[.int .i32 n, .int .i32 l] w fun e w' => e = .returned (.bool c) ∧ w = w'
abbrev Rck (k r ax ay m o px py vx vy c : Int) : Prop := ∀ w, Calls Try.prog 20 #[.agg #[.int .u32 k, .int .i32 r, .int .i32 ax, .int .i32 ay, .int .i32 m, .int .i32 o, .int .i32 px, .int .i32 py, .int .i32 vx, .int .i32 vy]] w fun e w' => e = .returned (.int .i64 c) ∧ Grown w w'

theorem rin {n l : Int} {c : Bool} (h1 : 0 ≤ l) (h2 : l < 2147483648) (hc : decide (-l ≤ n ∧ n ≤ l) = c) : RIn n l c := fun w => by
  have e1 : IntKind.i32.wrap (-l) = -l := by rw [IntKind.wrap_i32]; omega
  have e2 : wrap32 (-l) = -l := by unfold wrap32; omega
  by_cases g1 : -l ≤ n
  · by_cases g2 : n ≤ l
    · obtain rfl : true = c := by rw [← hc, decide_eq_true (And.intro g1 g2)]
      clear hc
      go_enter Try.func29, Try.ntmps29
      go_wp2
      go_ret
      exact ⟨rfl, rfl⟩
    · obtain rfl : false = c := by rw [← hc, decide_eq_false (fun h => g2 h.2)]
      clear hc
      go_enter Try.func29, Try.ntmps29
      go_wp2
      go_ret
      exact ⟨rfl, rfl⟩
  · obtain rfl : false = c := by rw [← hc, decide_eq_false (fun h => g1 h.1)]
    clear hc
    go_enter Try.func29, Try.ntmps29
    go_wp2
    go_ret
    exact ⟨rfl, rfl⟩
theorem ret_i64 {a b : Int} (h : a = b) : Ending.returned (.int .i64 a) = Ending.returned (.int .i64 b) := by rw [h]
set_option maxRecDepth 100000 in
set_option maxHeartbeats 8000000 in
theorem rck (k r ax ay m o px py vx vy c : Int) (hc : chk r ax ay m o px py vx vy = c) : Rck k r ax ay m o px py vx vy c := fun w => by
  by_cases g0 : r < 4096
  · have HC : Hid (c = 4) := Lib.hid (by rw [← hc]; unfold chk; repeat (first | rw [if_pos (by omega)] | rw [if_neg (by omega)]))
    clear hc
    go_enter Try.func20, Try.ntmps20
    go_wp2
    go_ret
    exact ⟨ret_i64 HC.out.symm, (Grown.refl _).alloc _ _⟩
  by_cases g1 : 4194304 < r
  · have HC : Hid (c = 4) := Lib.hid (by rw [← hc]; unfold chk; repeat (first | rw [if_pos (by omega)] | rw [if_neg (by omega)]))
    clear hc
    go_enter Try.func20, Try.ntmps20
    go_wp2
    go_ret
    exact ⟨ret_i64 HC.out.symm, (Grown.refl _).alloc _ _⟩
  by_cases g2 : ¬ (-4194304 ≤ ax ∧ ax ≤ 4194304)
  · have Jax := Lib.hid (rin (n := ax) (l := 4194304) (c := false) (by decide) (by decide) (decide_eq_false g2))
    have HC : Hid (c = 5) := Lib.hid (by rw [← hc]; unfold chk; repeat (first | rw [if_pos (by omega)] | rw [if_neg (by omega)]))
    clear hc
    go_enter Try.func20, Try.ntmps20
    go_wp2_with (first
      | ((with_reducible refine (Jax.out _).mono ?_); rintro e w' ⟨rfl, rfl⟩))
    go_ret
    exact ⟨ret_i64 HC.out.symm, (Grown.refl _).alloc _ _⟩
  replace g2 := Decidable.not_not.1 g2
  have Jax := Lib.hid (rin (n := ax) (l := 4194304) (c := true) (by decide) (by decide) (decide_eq_true g2))
  by_cases g3 : ¬ (-4194304 ≤ ay ∧ ay ≤ 4194304)
  · have Jay := Lib.hid (rin (n := ay) (l := 4194304) (c := false) (by decide) (by decide) (decide_eq_false g3))
    have HC : Hid (c = 5) := Lib.hid (by rw [← hc]; unfold chk; repeat (first | rw [if_pos (by omega)] | rw [if_neg (by omega)]))
    clear hc
    go_enter Try.func20, Try.ntmps20
    go_wp2_with (first
      | ((with_reducible refine (Jax.out _).mono ?_); rintro e w' ⟨rfl, rfl⟩)
      | ((with_reducible refine (Jay.out _).mono ?_); rintro e w' ⟨rfl, rfl⟩))
    go_ret
    exact ⟨ret_i64 HC.out.symm, (Grown.refl _).alloc _ _⟩
  replace g3 := Decidable.not_not.1 g3
  have Jay := Lib.hid (rin (n := ay) (l := 4194304) (c := true) (by decide) (by decide) (decide_eq_true g3))
  by_cases g4 : m < 0
  · have HC : Hid (c = 6) := Lib.hid (by rw [← hc]; unfold chk; repeat (first | rw [if_pos (by omega)] | rw [if_neg (by omega)]))
    clear hc
    go_enter Try.func20, Try.ntmps20
    go_wp2_with (first
      | ((with_reducible refine (Jax.out _).mono ?_); rintro e w' ⟨rfl, rfl⟩)
      | ((with_reducible refine (Jay.out _).mono ?_); rintro e w' ⟨rfl, rfl⟩))
    go_ret
    exact ⟨ret_i64 HC.out.symm, (Grown.refl _).alloc _ _⟩
  by_cases g5 : 1048576 < m
  · have HC : Hid (c = 6) := Lib.hid (by rw [← hc]; unfold chk; repeat (first | rw [if_pos (by omega)] | rw [if_neg (by omega)]))
    clear hc
    go_enter Try.func20, Try.ntmps20
    go_wp2_with (first
      | ((with_reducible refine (Jax.out _).mono ?_); rintro e w' ⟨rfl, rfl⟩)
      | ((with_reducible refine (Jay.out _).mono ?_); rintro e w' ⟨rfl, rfl⟩))
    go_ret
    exact ⟨ret_i64 HC.out.symm, (Grown.refl _).alloc _ _⟩
  by_cases g6 : o < 0
  · have HC : Hid (c = 7) := Lib.hid (by rw [← hc]; unfold chk; repeat (first | rw [if_pos (by omega)] | rw [if_neg (by omega)]))
    clear hc
    go_enter Try.func20, Try.ntmps20
    go_wp2_with (first
      | ((with_reducible refine (Jax.out _).mono ?_); rintro e w' ⟨rfl, rfl⟩)
      | ((with_reducible refine (Jay.out _).mono ?_); rintro e w' ⟨rfl, rfl⟩))
    go_ret
    exact ⟨ret_i64 HC.out.symm, (Grown.refl _).alloc _ _⟩
  by_cases g7 : 65536 < o
  · have HC : Hid (c = 7) := Lib.hid (by rw [← hc]; unfold chk; repeat (first | rw [if_pos (by omega)] | rw [if_neg (by omega)]))
    clear hc
    go_enter Try.func20, Try.ntmps20
    go_wp2_with (first
      | ((with_reducible refine (Jax.out _).mono ?_); rintro e w' ⟨rfl, rfl⟩)
      | ((with_reducible refine (Jay.out _).mono ?_); rintro e w' ⟨rfl, rfl⟩))
    go_ret
    exact ⟨ret_i64 HC.out.symm, (Grown.refl _).alloc _ _⟩
  by_cases g8 : ¬ (-1073741824 ≤ px ∧ px ≤ 1073741824)
  · have Jpx := Lib.hid (rin (n := px) (l := 1073741824) (c := false) (by decide) (by decide) (decide_eq_false g8))
    have HC : Hid (c = 8) := Lib.hid (by rw [← hc]; unfold chk; repeat (first | rw [if_pos (by omega)] | rw [if_neg (by omega)]))
    clear hc
    go_enter Try.func20, Try.ntmps20
    go_wp2_with (first
      | ((with_reducible refine (Jax.out _).mono ?_); rintro e w' ⟨rfl, rfl⟩)
      | ((with_reducible refine (Jay.out _).mono ?_); rintro e w' ⟨rfl, rfl⟩)
      | ((with_reducible refine (Jpx.out _).mono ?_); rintro e w' ⟨rfl, rfl⟩))
    go_ret
    exact ⟨ret_i64 HC.out.symm, (Grown.refl _).alloc _ _⟩
  replace g8 := Decidable.not_not.1 g8
  have Jpx := Lib.hid (rin (n := px) (l := 1073741824) (c := true) (by decide) (by decide) (decide_eq_true g8))
  by_cases g9 : ¬ (-1073741824 ≤ py ∧ py ≤ 1073741824)
  · have Jpy := Lib.hid (rin (n := py) (l := 1073741824) (c := false) (by decide) (by decide) (decide_eq_false g9))
    have HC : Hid (c = 8) := Lib.hid (by rw [← hc]; unfold chk; repeat (first | rw [if_pos (by omega)] | rw [if_neg (by omega)]))
    clear hc
    go_enter Try.func20, Try.ntmps20
    go_wp2_with (first
      | ((with_reducible refine (Jax.out _).mono ?_); rintro e w' ⟨rfl, rfl⟩)
      | ((with_reducible refine (Jay.out _).mono ?_); rintro e w' ⟨rfl, rfl⟩)
      | ((with_reducible refine (Jpx.out _).mono ?_); rintro e w' ⟨rfl, rfl⟩)
      | ((with_reducible refine (Jpy.out _).mono ?_); rintro e w' ⟨rfl, rfl⟩))
    go_ret
    exact ⟨ret_i64 HC.out.symm, (Grown.refl _).alloc _ _⟩
  replace g9 := Decidable.not_not.1 g9
  have Jpy := Lib.hid (rin (n := py) (l := 1073741824) (c := true) (by decide) (by decide) (decide_eq_true g9))
  by_cases g10 : ¬ (-16777216 ≤ vx ∧ vx ≤ 16777216)
  · have Jvx := Lib.hid (rin (n := vx) (l := 16777216) (c := false) (by decide) (by decide) (decide_eq_false g10))
    have HC : Hid (c = 9) := Lib.hid (by rw [← hc]; unfold chk; repeat (first | rw [if_pos (by omega)] | rw [if_neg (by omega)]))
    clear hc
    go_enter Try.func20, Try.ntmps20
    go_wp2_with (first
      | ((with_reducible refine (Jax.out _).mono ?_); rintro e w' ⟨rfl, rfl⟩)
      | ((with_reducible refine (Jay.out _).mono ?_); rintro e w' ⟨rfl, rfl⟩)
      | ((with_reducible refine (Jpx.out _).mono ?_); rintro e w' ⟨rfl, rfl⟩)
      | ((with_reducible refine (Jpy.out _).mono ?_); rintro e w' ⟨rfl, rfl⟩)
      | ((with_reducible refine (Jvx.out _).mono ?_); rintro e w' ⟨rfl, rfl⟩))
    go_ret
    exact ⟨ret_i64 HC.out.symm, (Grown.refl _).alloc _ _⟩
  replace g10 := Decidable.not_not.1 g10
  have Jvx := Lib.hid (rin (n := vx) (l := 16777216) (c := true) (by decide) (by decide) (decide_eq_true g10))
  by_cases g11 : ¬ (-16777216 ≤ vy ∧ vy ≤ 16777216)
  · have Jvy := Lib.hid (rin (n := vy) (l := 16777216) (c := false) (by decide) (by decide) (decide_eq_false g11))
    have HC : Hid (c = 9) := Lib.hid (by rw [← hc]; unfold chk; repeat (first | rw [if_pos (by omega)] | rw [if_neg (by omega)]))
    clear hc
    go_enter Try.func20, Try.ntmps20
    go_wp2_with (first
      | ((with_reducible refine (Jax.out _).mono ?_); rintro e w' ⟨rfl, rfl⟩)
      | ((with_reducible refine (Jay.out _).mono ?_); rintro e w' ⟨rfl, rfl⟩)
      | ((with_reducible refine (Jpx.out _).mono ?_); rintro e w' ⟨rfl, rfl⟩)
      | ((with_reducible refine (Jpy.out _).mono ?_); rintro e w' ⟨rfl, rfl⟩)
      | ((with_reducible refine (Jvx.out _).mono ?_); rintro e w' ⟨rfl, rfl⟩)
      | ((with_reducible refine (Jvy.out _).mono ?_); rintro e w' ⟨rfl, rfl⟩))
    go_ret
    exact ⟨ret_i64 HC.out.symm, (Grown.refl _).alloc _ _⟩
  replace g11 := Decidable.not_not.1 g11
  have Jvy := Lib.hid (rin (n := vy) (l := 16777216) (c := true) (by decide) (by decide) (decide_eq_true g11))
  have HC : Hid (c = 0) := Lib.hid (by rw [← hc]; unfold chk; repeat (first | rw [if_pos (by omega)] | rw [if_neg (by omega)]))
  clear hc
  go_enter Try.func20, Try.ntmps20
  go_wp2_with (first
    | ((with_reducible refine (Jax.out _).mono ?_); rintro e w' ⟨rfl, rfl⟩)
    | ((with_reducible refine (Jay.out _).mono ?_); rintro e w' ⟨rfl, rfl⟩)
    | ((with_reducible refine (Jpx.out _).mono ?_); rintro e w' ⟨rfl, rfl⟩)
    | ((with_reducible refine (Jpy.out _).mono ?_); rintro e w' ⟨rfl, rfl⟩)
    | ((with_reducible refine (Jvx.out _).mono ?_); rintro e w' ⟨rfl, rfl⟩)
    | ((with_reducible refine (Jvy.out _).mono ?_); rintro e w' ⟨rfl, rfl⟩))
  go_ret
  exact ⟨ret_i64 HC.out.symm, (Grown.refl _).alloc _ _⟩
end Go.Proofs.Ytlbbacmpdlghaaa
end

section
/-
  What a valid body's parts lie within.
-/
namespace Go.Proofs.Ytlbbacmpdlghaaa
open Go.RowKit Go.Lib

theorem chk_lim {r ax ay m o px py vx vy : Int} (h : chk r ax ay m o px py vx vy = 0) : (4096 ≤ r ∧ r ≤ 4194304) ∧ ((-4194304 ≤ ax ∧ ax ≤ 4194304) ∧ (-4194304 ≤ ay ∧ ay ≤ 4194304)) ∧ ((-1073741824 ≤ px ∧ px ≤ 1073741824) ∧ (-1073741824 ≤ py ∧ py ≤ 1073741824)) := by
  unfold chk at h
  split at h
  · split at h
    · split at h
      · split at h
        · split at h
          · rename_i h1 h2 h3 h4 h5
            exact ⟨h1, h2, h5⟩
          · omega
        · omega
      · omega
    · omega
  · omega
end Go.Proofs.Ytlbbacmpdlghaaa
end

section
/-
  A contact as an argument: opened into its five numbers, and shut again.
-/
namespace Go.Proofs.Ytlbbacmpdlghaaa
open Go.ChangeShapes Go.WideShapes Go.ChangeAt Go.RowKit Go.Joins

theorem cells_con : Try.prog.cellsOf 37 = 5 := by kernel_rfl
theorem cells_pai : Try.prog.cellsOf 35 = 2 := by kernel_rfl

section
variable {H : Type} {enc : TypeId × Value → H} {W : World} {base : Nat} {spare : Nat → Bool} {held : Bool}
theorem open_pai {n : Nat} {c0 c1 : Value} {y : DataW H × List MemPlace} (h : DataW.trod enc Try.prog W base spare held n 35 [c0, c1] = some y) :
    ∃ a b : Int, c0 = .int .u32 a ∧ c1 = .int .u32 b ∧ y = (.agg [.lit (.int .u32 a), .lit (.int .u32 b)], []) ∧ (Lit.int .u32 a).wf = true ∧ (Lit.int .u32 b).wf = true := by
  obtain ⟨z0, z1, m, hz, _, h0, h1⟩ := trod_struct2 Try.underlying35 h
  have g0 : DataW.trod enc Try.prog W base spare held m 28 [c0] = some z0 := by simpa [cells_u32] using h0
  have g1 : DataW.trod enc Try.prog W base spare held m 28 [c1] = some z1 := by simpa [cells_u32] using h1
  obtain ⟨a, e0, rfl, w0⟩ := DataW.trod_int Try.underlying28 g0
  obtain ⟨b, e1, rfl, w1⟩ := DataW.trod_int Try.underlying28 g1
  simp at e0 e1
  subst e0 e1
  exact ⟨a, b, rfl, rfl, by simpa using hz, w0, w1⟩
theorem shut_pai (m : Nat) {a b : Int} (w0 : (Lit.int .u32 a).wf = true) (w1 : (Lit.int .u32 b).wf = true) :
    DataW.trod enc Try.prog W base spare held (m + 2) 35 [.int .u32 a, .int .u32 b] = some (.agg [.lit (.int .u32 a), .lit (.int .u32 b)], []) := by
  have := trod_struct2_mk (enc := enc) (w := W) (base := base) (spare := spare) (held := held) (n := m + 1) (cs := [.int .u32 a, .int .u32 b]) (y0 := (.lit (.int .u32 a), [])) (y1 := (.lit (.int .u32 b), [])) Try.underlying35 (by simp [cells_pai])
    (by simpa [cells_u32] using trod_int_mk m Try.underlying28 w0) (by simpa [cells_u32] using trod_int_mk m Try.underlying28 w1)
  simpa using this
set_option maxRecDepth 100000 in
/-- Its five cells, wherever they lie. -/
theorem open_con5 {n0 : Nat} {c0 c1 c2 c3 c4 : Value} {y : DataW H × List MemPlace} (h : DataW.trod enc Try.prog W base spare held n0 37 [c0, c1, c2, c3, c4] = some y) :
    ∃ a0 a1 a2 a3 a4 : Int, (c0 = .int .u32 a0 ∧ c1 = .int .u32 a1 ∧ c2 = .int .i32 a2 ∧ c3 = .int .i32 a3 ∧ c4 = .int .i32 a4) ∧ y = (.agg [.agg [.lit (.int .u32 a0), .lit (.int .u32 a1)], .agg [.lit (.int .i32 a2), .lit (.int .i32 a3)], .lit (.int .i32 a4)], []) ∧ (Lit.int .u32 a0).wf = true ∧ (Lit.int .u32 a1).wf = true ∧ (Lit.int .i32 a2).wf = true ∧ (Lit.int .i32 a3).wf = true ∧ (Lit.int .i32 a4).wf = true := by
  obtain ⟨xs, n, _, hx, _, hlen, hg⟩ := DataW.trod_struct Try.underlying37 h
  match xs, hlen with
  | [y0, y1, y2], _ =>
    have g0 : DataW.trod enc Try.prog W base spare held n 35 [c0, c1] = some y0 := by simpa [Value.cells, cells_pai] using hg 0 _ rfl
    have g1 : DataW.trod enc Try.prog W base spare held n 30 [c2, c3] = some y1 := by simpa [Value.cells, cells_vec] using hg 1 _ rfl
    have g2 : DataW.trod enc Try.prog W base spare held n 21 [c4] = some y2 := by simpa [Value.cells, cells_i32] using hg 2 _ rfl
    clear hg h
    obtain ⟨a0, a1, rfl, rfl, rfl, w0, w1⟩ := open_pai g0
    obtain ⟨a2, a3, rfl, rfl, rfl, w2, w3⟩ := open_vec g1
    obtain ⟨a4, e4, rfl, w4⟩ := DataW.trod_int Try.underlying21 g2
    simp at e4
    subst e4
    exact ⟨a0, a1, a2, a3, a4, ⟨rfl, rfl, rfl, rfl, rfl⟩, by simpa using hx, w0, w1, w2, w3, w4⟩
set_option maxRecDepth 100000 in
theorem open_contact {r : Reach} {b0 : Nat} {v : Value} {d : DataW H} {p : List MemPlace} (hv : Value.okWide Try.prog W r b0 37 v) (h : DataW.Trod enc Try.prog W base spare held 37 v d p) :
    ∃ a0 a1 a2 a3 a4 : Int, v = .agg #[.int .u32 a0, .int .u32 a1, .int .i32 a2, .int .i32 a3, .int .i32 a4] ∧ d = .agg [.agg [.lit (.int .u32 a0), .lit (.int .u32 a1)], .agg [.lit (.int .i32 a2), .lit (.int .i32 a3)], .lit (.int .i32 a4)] ∧ p = [] ∧ (Lit.int .u32 a0).wf = true ∧ (Lit.int .u32 a1).wf = true ∧ (Lit.int .i32 a2).wf = true ∧ (Lit.int .i32 a3).wf = true ∧ (Lit.int .i32 a4).wf = true := by
  obtain ⟨cs, rfl, hsz⟩ := okWide_struct Try.underlying37 hv
  rw [cells_con] at hsz
  obtain ⟨l⟩ := cs
  match l, hsz with
  | [c0, c1, c2, c3, c4], _ =>
    obtain ⟨fuel, hf⟩ := h
    obtain ⟨a0, a1, a2, a3, a4, ⟨rfl, rfl, rfl, rfl, rfl⟩, hy, w⟩ := open_con5 hf
    simp only [Prod.mk.injEq] at hy
    exact ⟨a0, a1, a2, a3, a4, rfl, hy.1, hy.2, w⟩
set_option maxRecDepth 100000 in
theorem shut_contact {a0 a1 a2 a3 a4 : Int} (h : (Lit.int .u32 a0).wf = true ∧ (Lit.int .u32 a1).wf = true ∧ (Lit.int .i32 a2).wf = true ∧ (Lit.int .i32 a3).wf = true ∧ (Lit.int .i32 a4).wf = true) : DataW.Trod enc Try.prog W base spare held 37 (.agg #[.int .u32 a0, .int .u32 a1, .int .i32 a2, .int .i32 a3, .int .i32 a4]) (.agg [.agg [.lit (.int .u32 a0), .lit (.int .u32 a1)], .agg [.lit (.int .i32 a2), .lit (.int .i32 a3)], .lit (.int .i32 a4)]) [] := by
  obtain ⟨w0, w1, w2, w3, w4⟩ := h
  have := trod_struct_mk (enc := enc) (w := W) (base := base) (spare := spare) (held := held) (n := 2) (cs := [.int .u32 a0, .int .u32 a1, .int .i32 a2, .int .i32 a3, .int .i32 a4]) (xs := [(.agg [.lit (.int .u32 a0), .lit (.int .u32 a1)], []), (.agg [.lit (.int .i32 a2), .lit (.int .i32 a3)], []), (.lit (.int .i32 a4), [])]) Try.underlying37 (by simp [cells_con])
    (by simp [cells_pai, cells_vec, cells_i32, shut_pai 0 w0 w1, shut_vec 0 w2 w3, trod_int_mk 1 Try.underlying21 w4])
  exact ⟨3, by simpa [Value.cells] using this⟩
end
end Go.Proofs.Ytlbbacmpdlghaaa
end

section
/-
  Package box: boxes as numbers (no program).
-/
namespace Go.Proofs.Ytlbbacmpdlghaaa

/-- The box is empty. -/
def empB (a b c d : Int) : Bool := decide (c < a ∨ d < b)
def ovlB (a b c d e f g h : Int) : Bool := decide (a ≤ c ∧ b ≤ d ∧ e ≤ g ∧ f ≤ h ∧ a ≤ g ∧ e ≤ c ∧ b ≤ h ∧ f ≤ d)
def conB (a b c d x y : Int) : Bool := decide (a ≤ x ∧ x ≤ c ∧ b ≤ y ∧ y ≤ d)
abbrev Q4 := Int × Int × Int × Int
def meeQ (a b c d e f g h : Int) : Q4 := if ovlB a b c d e f g h = true then (max a e, max b f, min c g, min d h) else (1, 0, 0, 0)
def uniQ (a b c d e f g h : Int) : Q4 := if empB a b c d = true then (if empB e f g h = true then (1, 0, 0, 0) else (e, f, g, h)) else if empB e f g h = true then (a, b, c, d) else (min a e, min b f, max c g, max d h)
end Go.Proofs.Ytlbbacmpdlghaaa
end

section
/-
  Lists without duplicates in ascending order: an element put in its place; such a list is given by its members (no program).
-/
namespace Go.Proofs.Ytlbbacmpdlghaaa

/-- A strict order, as a test. -/
structure Strict {α : Type} (lt : α → α → Bool) : Prop where
  irr : ∀ a, lt a a = false
  trans : ∀ {a b c}, lt a b = true → lt b c = true → lt a c = true
  tri : ∀ a b, lt a b = false → lt b a = false → a = b
def SortS {α : Type} (lt : α → α → Bool) (l : List α) : Prop := l.Pairwise fun a b => lt a b = true
def dropOne {α : Type} [DecidableEq α] (p : α) : List α → List α
  | [] => []
  | x :: r => if x = p then r else x :: r
/-- p put into l at its place, unless it is there. -/
def putS {α : Type} [DecidableEq α] (lt : α → α → Bool) (l : List α) (p : α) : List α := l.takeWhile (fun x => lt x p) ++ p :: dropOne p (l.dropWhile fun x => lt x p)
section
variable {α : Type} [DecidableEq α] {lt : α → α → Bool}
theorem putS_nil (p : α) : putS lt [] p = [p] := rfl
theorem putS_cons (x : α) (l : List α) (p : α) : putS lt (x :: l) p = if lt x p = true then x :: putS lt l p else p :: dropOne p (x :: l) := by
  unfold putS
  by_cases h : lt x p = true
  · rw [if_pos h, List.takeWhile_cons_of_pos (by simpa using h), List.dropWhile_cons_of_pos (by simpa using h)]; rfl
  · rw [if_neg h, List.takeWhile_cons_of_neg (by simpa using h), List.dropWhile_cons_of_neg (by simpa using h)]; rfl
theorem dropOne_cons (p x : α) (r : List α) : dropOne p (x :: r) = if x = p then r else x :: r := rfl
theorem dropOne_sub (p : α) (l : List α) : (dropOne p l).Sublist l := by
  cases l with
  | nil => exact List.Sublist.refl _
  | cons x r =>
    rw [dropOne_cons]
    split
    · exact List.sublist_cons_self _ _
    · exact List.Sublist.refl _
theorem SortS.lt_all (H : Strict lt) {x p : α} {l : List α} (h : SortS lt (x :: l)) (hx : lt x p = false) : ∀ y ∈ dropOne p (x :: l), lt p y = true := by
  have h1 := List.pairwise_cons.1 h
  intro y hy
  rw [dropOne_cons] at hy
  split at hy
  · rename_i e
    subst e
    exact h1.1 y hy
  · rename_i e
    have hp : lt p x = true := by
      cases q : lt p x
      · exact absurd (H.tri _ _ hx q) e
      · rfl
    rcases List.mem_cons.1 hy with rfl | hy
    · exact hp
    · exact H.trans hp (h1.1 y hy)
theorem putS_mem (H : Strict lt) : ∀ {l : List α} {p x : α}, SortS lt l → (x ∈ putS lt l p ↔ x = p ∨ x ∈ l)
  | [], p, x, _ => by simp [putS_nil]
  | y :: l, p, x, h => by
    have h1 := List.pairwise_cons.1 h
    rw [putS_cons]
    split
    · rw [List.mem_cons, putS_mem H h1.2, List.mem_cons]
      constructor
      · rintro (a | a | a)
        · exact .inr (.inl a)
        · exact .inl a
        · exact .inr (.inr a)
      · rintro (a | a | a)
        · exact .inr (.inl a)
        · exact .inl a
        · exact .inr (.inr a)
    · rw [dropOne_cons]
      split
      · rename_i e
        subst e
        simp
      · simp
theorem putS_sort (H : Strict lt) : ∀ {l : List α} {p : α}, SortS lt l → SortS lt (putS lt l p)
  | [], p, _ => by rw [putS_nil]; exact List.pairwise_singleton _ _
  | y :: l, p, h => by
    have h1 := List.pairwise_cons.1 h
    rw [putS_cons]
    split
    · rename_i hy
      refine List.pairwise_cons.2 ⟨fun z hz => ?_, putS_sort H h1.2⟩
      rcases (putS_mem H h1.2).1 hz with rfl | hz
      · exact hy
      · exact h1.1 z hz
    · rename_i hy
      exact List.pairwise_cons.2 ⟨SortS.lt_all H h (by simpa using hy), List.Pairwise.sublist (dropOne_sub _ _) h⟩
omit [DecidableEq α] in
theorem SortS.ext (H : Strict lt) : ∀ {a b : List α}, SortS lt a → SortS lt b → (∀ x, x ∈ a ↔ x ∈ b) → a = b
  | [], [], _, _, _ => rfl
  | [], y :: b, _, _, h => absurd ((h y).2 (by simp)) (by simp)
  | x :: a, [], _, _, h => absurd ((h x).1 (by simp)) (by simp)
  | x :: a, y :: b, ha, hb, h => by
    have a1 := List.pairwise_cons.1 ha
    have b1 := List.pairwise_cons.1 hb
    have no : ∀ u v : α, lt u v = true → lt v u = true → False := fun u v h1 h2 => by
      have := H.trans h1 h2
      rw [H.irr] at this
      cases this
    have e : x = y := by
      rcases List.mem_cons.1 ((h x).1 (by simp)) with e | e
      · exact e
      · rcases List.mem_cons.1 ((h y).2 (by simp)) with q | q
        · exact q.symm
        · exact (no x y (a1.1 y q) (b1.1 x e)).elim
    subst e
    rw [SortS.ext H a1.2 b1.2 fun z => ?_]
    have hz := h z
    rw [List.mem_cons, List.mem_cons] at hz
    have out : ∀ {l : List α}, (∀ z ∈ l, lt x z = true) → z ∈ l → z ≠ x := fun hl hm e => by
      have := hl z hm
      rw [e, H.irr] at this
      cases this
    constructor
    · intro hm
      rcases hz.1 (.inr hm) with q | q
      · exact absurd q (out a1.1 hm)
      · exact q
    · intro hm
      rcases hz.2 (.inr hm) with q | q
      · exact absurd q (out b1.1 hm)
      · exact q
/-- All elements of a list that pass a test, put one after another. -/
theorem fold_put (H : Strict lt) {β : Type} (f : β → α) (t : β → Bool) : ∀ (L : List β) (acc : List α), SortS lt acc →
    SortS lt (L.foldl (fun acc y => if t y = true then putS lt acc (f y) else acc) acc) ∧ ∀ x, x ∈ L.foldl (fun acc y => if t y = true then putS lt acc (f y) else acc) acc ↔ x ∈ acc ∨ ∃ y ∈ L, t y = true ∧ x = f y
  | [], acc, h => ⟨h, fun x => by simp⟩
  | y :: L, acc, h => by
    rw [List.foldl_cons]
    by_cases c : t y = true
    · rw [if_pos c]
      obtain ⟨i1, i2⟩ := fold_put H f t L (putS lt acc (f y)) (putS_sort H h)
      refine ⟨i1, fun x => ?_⟩
      rw [i2, putS_mem H h]
      constructor
      · rintro ((rfl | a) | ⟨z, hz, hc, rfl⟩)
        · exact .inr ⟨y, by simp, c, rfl⟩
        · exact .inl a
        · exact .inr ⟨z, by simp [hz], hc, rfl⟩
      · rintro (a | ⟨z, hz, hc, rfl⟩)
        · exact .inl (.inr a)
        · rcases List.mem_cons.1 hz with rfl | hz
          · exact .inl (.inl rfl)
          · exact .inr ⟨z, hz, hc, rfl⟩
    · rw [if_neg c]
      obtain ⟨i1, i2⟩ := fold_put H f t L acc h
      refine ⟨i1, fun x => ?_⟩
      rw [i2]
      constructor
      · rintro (a | ⟨z, hz, hc, rfl⟩)
        · exact .inl a
        · exact .inr ⟨z, by simp [hz], hc, rfl⟩
      · rintro (a | ⟨z, hz, hc, rfl⟩)
        · exact .inl a
        · rcases List.mem_cons.1 hz with rfl | hz
          · exact absurd hc c
          · exact .inr ⟨z, hz, hc, rfl⟩
end
/-- Numbers, and pairs of numbers, in their order. -/
def kless (a b : Int) : Bool := decide (a < b)
def pless (p q : Int × Int) : Bool := decide (p.1 < q.1 ∨ p.1 = q.1 ∧ p.2 < q.2)
theorem kless_strict : Strict kless := ⟨fun a => decide_eq_false (by omega), fun {a b c} h1 h2 => by
  have h1 := of_decide_eq_true h1
  have h2 := of_decide_eq_true h2
  exact decide_eq_true (by omega), fun a b h1 h2 => by
  have h1 := of_decide_eq_false h1
  have h2 := of_decide_eq_false h2
  omega⟩
theorem pless_strict : Strict pless := ⟨fun a => decide_eq_false (by omega), fun {a b c} h1 h2 => by
  have h1 := of_decide_eq_true h1
  have h2 := of_decide_eq_true h2
  exact decide_eq_true (by omega), fun a b h1 h2 => by
  have h1 := of_decide_eq_false h1
  have h2 := of_decide_eq_false h2
  exact Prod.ext (by omega) (by omega)⟩
end Go.Proofs.Ytlbbacmpdlghaaa
end
