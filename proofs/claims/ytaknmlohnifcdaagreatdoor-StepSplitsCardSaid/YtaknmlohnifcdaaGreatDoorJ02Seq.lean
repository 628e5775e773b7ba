import Derived.Test.YtaknmlohnifcdaaGreatDoorJ00Bits
import Derived.WalkKit
import Derived.Laws.AppendOwn
import Derived.Deep.AppendLies
import Derived.Below
import Derived.Deep.RegionHeld3
import Derived.OpenShut
import Derived.LoopN
import Derived.Deep.QuietTactic
import Derived.BigQuiet
import Derived.Deep.LoopGhost
import Derived.Deep.DeepCutAuto
import Derived.Test.YtaknmlohnifcdaaGreatDoorJ01Bodies

/-! J02Seq: Seq, Fac, Blk, Za, WideShift, RefDivide, FxCon, BodyRef, BodyIn, ImpMath, ImpRef, BoxMath, BoxRef. -/

section
/-
  Slices that read as lists, for elements of any kind; a slice of the call's own appended to (no program).
-/
namespace Go.Proofs.YtaknmlohnifcdaaGreatDoor
open Go.RowKit Go.Lib

/-- What yields in every world that meets S is taken. -/
theorem sT {P : Program} {ops : Array Oper} {Q : Exit → Act → World → Prop} {md : Region.Mode} {S : World → Prop} (i : Nat) {oi : Oper} {v : Value} {fuel : Nat} {listed : Array Bool} {a : Act} {w : World} (hS : S w)
    (h : wpAnyH P md ops Q S fuel (listed.setIfInBounds i true) (a.put oi.dst v) w) (hi : ops[i]? = some oi := by (simp only [List.getElem?_toArray, List.getElem?_cons_succ, List.getElem?_cons_zero]; rfl))
    (hv : ∀ w, S w → (execOp a.eval oi).run P w = .ok (.value v) w := by (intro w hSw; (try dsimp only at hSw); go_simp; (try with_reducible rfl)))
    (hw : Region.wanted oi (yielded ops a.tmps) = true := by rfl) (hs : Region.noSelect ops = true := by kernel_rfl) (hf : Region.free md ops listed i = true := by kernel_rfl) (hr : (Region.ready md ops listed).contains i = true := by kernel_rfl)
    (hQ : ∀ c a w, Q (.panic c) (a.put oi.dst v) w → Q (.panic c) a w := by exact fun _ _ _ h => h) : wpAnyH P md ops Q S (fuel + 1) listed a w :=
  wpAnyH_take hi hs hf hr hQ (Or.inl ⟨hw, hv⟩) hS h
/-- The same; the slots are written out behind it. -/
theorem sN {P : Program} {ops : Array Oper} {Q : Exit → Act → World → Prop} {md : Region.Mode} {S : World → Prop} (i : Nat) {oi : Oper} {v : Value} {fuel : Nat} {listed : Array Bool} {a a' : Act} {w : World} (hS : S w)
    (h : wpAnyH P md ops Q S fuel (listed.setIfInBounds i true) a' w) (hi : ops[i]? = some oi := by (simp only [List.getElem?_toArray, List.getElem?_cons_succ, List.getElem?_cons_zero]; rfl))
    (hv : ∀ w, S w → (execOp a.eval oi).run P w = .ok (.value v) w := by (intro w hSw; (try dsimp only at hSw); go_simp; (try with_reducible rfl)))
    (ha : a.put oi.dst v = a' := by ((try simp only [Act.put, List.setIfInBounds_toArray, List.set_cons_zero, List.set_cons_succ]); rfl))
    (hw : Region.wanted oi (yielded ops a.tmps) = true := by rfl) (hs : Region.noSelect ops = true := by kernel_rfl) (hf : Region.free md ops listed i = true := by kernel_rfl) (hr : (Region.ready md ops listed).contains i = true := by kernel_rfl)
    (hQ : ∀ c a w, Q (.panic c) (a.put oi.dst v) w → Q (.panic c) a w := by exact fun _ _ _ h => h) : wpAnyH P md ops Q S (fuel + 1) listed a w :=
  wpAnyH_take hi hs hf hr hQ (Or.inl ⟨hw, hv⟩) hS (by rw [ha]; exact h)
/-- What isn't wanted is passed by. -/
theorem sU {P : Program} {ops : Array Oper} {Q : Exit → Act → World → Prop} {md : Region.Mode} {S : World → Prop} (i : Nat) {oi : Oper} {fuel : Nat} {listed : Array Bool} {a : Act} {w : World} (hS : S w)
    (h : wpAnyH P md ops Q S fuel (listed.setIfInBounds i true) (a.put oi.dst undef) w) (hi : ops[i]? = some oi := by (simp only [List.getElem?_toArray, List.getElem?_cons_succ, List.getElem?_cons_zero]; rfl))
    (hw : Region.wanted oi (yielded ops a.tmps) = false := by rfl) (hs : Region.noSelect ops = true := by kernel_rfl) (hf : Region.free md ops listed i = true := by kernel_rfl) (hr : (Region.ready md ops listed).contains i = true := by kernel_rfl)
    (hQ : ∀ c a w, Q (.panic c) (a.put oi.dst undef) w → Q (.panic c) a w := by exact fun _ _ _ h => h) : wpAnyH P md ops Q S (fuel + 1) listed a w :=
  wpAnyH_take hi hs hf hr hQ (Or.inr ⟨hw, rfl⟩) hS h
/-- The same; the slots are written out behind it. -/
theorem sM {P : Program} {ops : Array Oper} {Q : Exit → Act → World → Prop} {md : Region.Mode} {S : World → Prop} (i : Nat) {oi : Oper} {fuel : Nat} {listed : Array Bool} {a a' : Act} {w : World} (hS : S w)
    (h : wpAnyH P md ops Q S fuel (listed.setIfInBounds i true) a' w) (hi : ops[i]? = some oi := by (simp only [List.getElem?_toArray, List.getElem?_cons_succ, List.getElem?_cons_zero]; rfl))
    (ha : a.put oi.dst undef = a' := by ((try simp only [Act.put, List.setIfInBounds_toArray, List.set_cons_zero, List.set_cons_succ]); rfl))
    (hw : Region.wanted oi (yielded ops a.tmps) = false := by rfl) (hs : Region.noSelect ops = true := by kernel_rfl) (hf : Region.free md ops listed i = true := by kernel_rfl) (hr : (Region.ready md ops listed).contains i = true := by kernel_rfl)
    (hQ : ∀ c a w, Q (.panic c) (a.put oi.dst undef) w → Q (.panic c) a w := by exact fun _ _ _ h => h) : wpAnyH P md ops Q S (fuel + 1) listed a w :=
  wpAnyH_take hi hs hf hr hQ (Or.inr ⟨hw, rfl⟩) hS (by rw [ha]; exact h)
/-- The one operation that may come up is carried out. -/
theorem sC {P : Program} {ops : Array Oper} {Q : Exit → Act → World → Prop} {md : Region.Mode} {S : World → Prop} (i : Nat) {o : Oper} {fuel : Nat} {listed : Array Bool} {a : Act} {w : World}
    (h : ∀ K' : Act → World → Prop, Shut (∀ a w, S w → (S w → wpAnyH P md ops Q S fuel (listed.setIfInBounds i true) a w) → K' a w) → if Region.wanted o (yielded ops a.tmps) = true then Oper.wp P o a w K' Q else K' (a.put o.dst undef) w)
    (ho : ops[i]? = some o := by (simp only [List.getElem?_toArray, List.getElem?_cons_succ, List.getElem?_cons_zero]; rfl)) (hr : Region.ready md ops listed = [i] := by kernel_rfl) : wpAnyH P md ops Q S (fuel + 1) listed a w :=
  wpAnyH_ready hr (by simp) (AllReadyH.cons ho h AllReadyH.nil)
/-- The region's end. -/
theorem sE {P : Program} {ops : Array Oper} {Q : Act → World → Prop} {N : Exit → Act → World → Prop} {md : Region.Mode} {S : World → Prop} {listed : Array Bool} {a : Act} {w : World} {fuel : Nat} (h : Q a w) (hn : Q a w → N .normal a w := by exact fun h => NoPanic.normal h) (hr : Region.ready md ops listed = [] := by kernel_rfl) : wpAnyH P md ops N S fuel listed a w := wpAnyH_done hr (hn h) _
/-- A step of a region by hand: what yields in every world that meets S. -/
theorem rtk {P : Program} {ops : Array Oper} {Q : Exit → Act → World → Prop} {md : Region.Mode} {S : World → Prop} (i : Nat) {oi : Oper} {v : Value} {fuel : Nat} {listed : Array Bool} {a : Act} {w : World} (hi : ops[i]? = some oi)
    (hv : ∀ w, S w → (execOp a.eval oi).run P w = .ok (.value v) w) (hS : S w) (h : wpAnyH P md ops Q S fuel (listed.setIfInBounds i true) (a.put oi.dst v) w)
    (hw : Region.wanted oi (yielded ops a.tmps) = true := by rfl) (hs : Region.noSelect ops = true := by kernel_rfl) (hf : Region.free md ops listed i = true := by kernel_rfl) (hr : (Region.ready md ops listed).contains i = true := by kernel_rfl)
    (hQ : ∀ c a w, Q (.panic c) (a.put oi.dst v) w → Q (.panic c) a w := by exact fun _ _ _ h => h) : wpAnyH P md ops Q S (fuel + 1) listed a w :=
  wpAnyH_take hi hs hf hr hQ (Or.inl ⟨hw, hv⟩) hS h
/-- The same, of a step that is not wanted. -/
theorem rtu {P : Program} {ops : Array Oper} {Q : Exit → Act → World → Prop} {md : Region.Mode} {S : World → Prop} (i : Nat) {oi : Oper} {fuel : Nat} {listed : Array Bool} {a : Act} {w : World} (hi : ops[i]? = some oi)
    (hS : S w) (h : wpAnyH P md ops Q S fuel (listed.setIfInBounds i true) (a.put oi.dst undef) w)
    (hw : Region.wanted oi (yielded ops a.tmps) = false := by rfl) (hs : Region.noSelect ops = true := by kernel_rfl) (hf : Region.free md ops listed i = true := by kernel_rfl) (hr : (Region.ready md ops listed).contains i = true := by kernel_rfl)
    (hQ : ∀ c a w, Q (.panic c) (a.put oi.dst undef) w → Q (.panic c) a w := by exact fun _ _ _ h => h) : wpAnyH P md ops Q S (fuel + 1) listed a w :=
  wpAnyH_take hi hs hf hr hQ (Or.inr ⟨hw, rfl⟩) hS h
/-- The value v is a slice of the elements of L: the cells of x read as f x. -/
def Sq {α : Type} (f : α → List Value) (n : Nat) (w : World) (v : Value) (L : List α) : Prop :=
  ∃ base cap, v = .slice base L.length cap ∧ ∀ (k : Nat) (x : α), L[k]? = some x → ∃ g off, base = some ⟨g, off, none⟩ ∧ ∀ (i : Nat) (u : Value), (f x)[i]? = some u → w.cell? ⟨g, off + k * n + i, none⟩ = some u
theorem Sq.kep {α : Type} {f : α → List Value} {n : Nat} {w w' : World} {v : Value} {L : List α} (h : Sq f n w v L) (g : Kep w.heap.size w w') : Sq f n w' v L := by
  obtain ⟨base, cap, rfl, hc⟩ := h
  refine ⟨base, cap, rfl, fun k x hx => ?_⟩
  obtain ⟨b, off, e, hi⟩ := hc k x hx
  exact ⟨b, off, e, fun i u hu => g.all (hi i u hu)⟩
theorem Sq.nil {α : Type} {f : α → List Value} {n : Nat} {w : World} {base : Option Addr} {cap : Nat} : Sq f n w (.slice base 0 cap) ([] : List α) := ⟨base, cap, rfl, fun k x hx => by simp at hx⟩
theorem Sq.shape {α : Type} {f : α → List Value} {n : Nat} {w : World} {v : Value} {L : List α} (h : Sq f n w v L) : ∃ base cap, v = .slice base L.length cap := by
  obtain ⟨b, c, e, _⟩ := h
  exact ⟨b, c, e⟩
theorem cat_get {α : Type} {f : α → List Value} {n : Nat} (hf : ∀ x, (f x).length = n) : ∀ (s : List α) (k : Nat) (b : α), s[k]? = some b → ∀ i, i < n → (s.flatMap f)[k * n + i]? = (f b)[i]?
  | [], _, _, h, _, _ => by simp at h
  | x :: s, 0, b, h, i, hi => by
    simp at h
    subst h
    simp only [List.flatMap_cons]
    rw [List.getElem?_append_left (by rw [hf]; omega)]
    simp
  | x :: s, k + 1, b, h, i, hi => by
    have e := cat_get hf s k b (by simpa using h) i hi
    simp only [List.flatMap_cons]
    rw [List.getElem?_append_right (by rw [hf, Nat.succ_mul]; omega), hf, show (k + 1) * n + i - n = k * n + i by rw [Nat.succ_mul]; omega]
    exact e
theorem cat_len {α : Type} {f : α → List Value} {n : Nat} (hf : ∀ x, (f x).length = n) : ∀ (s : List α), (s.flatMap f).length = s.length * n
  | [] => by simp
  | x :: s => by rw [List.flatMap_cons, List.length_append, hf, cat_len hf s, List.length_cons, Nat.succ_mul]; omega
theorem own_sq {α : Type} {f : α → List Value} {n : Nat} (hf : ∀ x, (f x).length = n) {w : World} {B : Nat} {t : TypeId} {v : Value} {s : List α} (h : w.ownsRow B t n v s.length (s.flatMap f)) : Sq f n w v s := by
  obtain ⟨_, ⟨rfl, h0⟩ | ⟨g, cap, cur, rfl, _, hg, hn, _, hs, hc⟩⟩ := h
  · have e := List.length_eq_zero_iff.1 h0
    subst e
    exact Sq.nil
  · refine ⟨_, cap, rfl, fun k b hb => ⟨g, 0, rfl, fun i u hu => ?_⟩⟩
    have hk : k < s.length := (List.getElem?_eq_some_iff.1 hb).1
    have hi : i < n := by have := (List.getElem?_eq_some_iff.1 hu).1; rwa [hf] at this
    rw [← cat_get hf s k b hb i hi, ← hc] at hu
    have hlt : k * n + i < s.length * n := by
      have := Nat.mul_le_mul_right n (Nat.succ_le_of_lt hk)
      rw [Nat.succ_mul] at this
      omega
    rw [List.getElem?_take_of_lt hlt] at hu
    simp only [World.cell?, hg, Nat.zero_add]
    simpa using hu
/-- Where what the slice v lies in is new. -/
theorem own_blk {w : World} {B : Nat} {t : TypeId} {size n : Nat} {v : Value} {xs : List Value} (h : w.ownsRow B t size v n xs) : ∀ g, v.ownBlock = some g → B ≤ g ∧ g < w.heap.size := h.lt
/-- An element appended to a slice of the call's own. -/
theorem wpList_app {α : Type} (f : α → List Value) (n : Nat) (hf : ∀ x, (f x).length = n) (h1 : ∀ x, ∀ u ∈ f x, u.oneCell' = true) {P : Program} {ops : Array Oper} {rest : List Oper} {o : Oper} {a : Act} {Q : Exit → Act → World → Prop} (hgd : o.guard = none) (s x : Operand) (t : TypeId)
    (ho : o.op = .call { callee := .builtin .append, args := #[s, x], argTypes := #[t, t] }) (e : TypeId) (z : Value) (bytes : Nat) (ht : P.underlying t = some (.slice e))
    (hi : (P.info? e).map (fun i => (i.zero, i.size, i.bytes)) = some (some z, n, bytes)) (hzs : z.cells.size = n) (hn : 0 < n)
    (B : Nat) (W : World) (v : Value) (L : List α) (y : α) (hs : a.eval s = v) (hown : W.ownsRow B e n v L.length (L.flatMap f)) (b : Nat) (hb : b = W.heap.size) (hx : a.eval x = .slice (some ⟨b, 0, none⟩) 1 1)
    (cs : Array Value) (hcs : cs.toList = f y) (hl : L.length + 1 ≤ maxLen) (hby : (L.length + 1) * bytes ≤ 140737488355328) (hB : B ≤ W.heap.size)
    (h : ∀ v' w', w'.ownsRow B e n v' (L ++ [y]).length ((L ++ [y]).flatMap f) → Kep B W w' → wpList P ops Q rest (a.put o.dst v') w') : wpList P ops Q (o :: rest) a (W.alloc (.cells cs e)) := by
  subst hb
  obtain ⟨i0, hi0, hz0, hz1, hz2⟩ := info_parts hi
  refine wpList_append_own _ hgd s x t ho B e i0 z n bytes ht hi0 hz0 hz1 hz2 hzs hn v L.length (L.flatMap f) hs (hown.alloc _) ⟨_, 0, none⟩ 1 1 (f y) hx (by rw [hf]; omega) (fun j u hu => ?_) (h1 y) hl hby (by simp; omega) fun v' w' h2 h3 _ => h v' w' ?_ ?_
  · have q : ((⟨W.heap.size, 0, none⟩ : Addr).add j) = ⟨W.heap.size, j, none⟩ := by simp [Addr.add]; exact Eq.symm
    rw [q, World.cell?_alloc_at _ _ _ _ rfl]
    rw [← hcs] at hu
    simpa using hu
  · simpa using h2
  · exact ((Kep.refl B W).alloc hB _).row h3 (by simp; omega) (fun k q => (hown.lt k q).1)
/-- As wpList_app, at a step of a region that draws its order. -/
theorem step_app {α : Type} (f : α → List Value) (n : Nat) (hf : ∀ x, (f x).length = n) (h1 : ∀ x, ∀ u ∈ f x, u.oneCell' = true) {P : Program} {ops : Array Oper} {o : Oper} {a : Act} {K : Act → World → Prop} {Q : Exit → Act → World → Prop} {E : Prop} (hgd : o.guard = none) (s x : Operand) (t : TypeId)
    (ho : o.op = .call { callee := .builtin .append, args := #[s, x], argTypes := #[t, t] }) (e : TypeId) (z : Value) (bytes : Nat) (ht : P.underlying t = some (.slice e))
    (hi : (P.info? e).map (fun i => (i.zero, i.size, i.bytes)) = some (some z, n, bytes)) (hzs : z.cells.size = n) (hn : 0 < n)
    (B : Nat) (W : World) (v : Value) (L : List α) (y : α) (hs : a.eval s = v) (hown : W.ownsRow B e n v L.length (L.flatMap f)) (b : Nat) (hb : b = W.heap.size) (hx : a.eval x = .slice (some ⟨b, 0, none⟩) 1 1)
    (cs : Array Value) (hcs : cs.toList = f y) (hl : L.length + 1 ≤ maxLen) (hby : (L.length + 1) * bytes ≤ 140737488355328) (hB : B ≤ W.heap.size)
    (h : ∀ v' w', w'.ownsRow B e n v' (L ++ [y]).length ((L ++ [y]).flatMap f) → Kep B (W.alloc (.cells cs e)) w' → K (a.put o.dst v') w') : if Region.wanted o (yielded ops a.tmps) = true then Oper.wp P o a (W.alloc (.cells cs e)) K Q else E := by
  subst hb
  obtain ⟨i0, hi0, hz0, hz1, hz2⟩ := info_parts hi
  refine step_append_lies _ hgd s x t ho B e i0 z n bytes ht hi0 hz0 hz1 hz2 hzs hn v L.length (L.flatMap f) hs (hown.alloc _) ⟨_, 0, none⟩ 1 1 (f y) hx (by rw [hf]; omega) (fun j u hu => ?_) (h1 y) (by decide) hl hby (by simp; omega) _ rfl fun g cap w' h2 h3 _ _ => h _ w' ?_ ?_
  · have q : ((⟨W.heap.size, 0, none⟩ : Addr).add j) = ⟨W.heap.size, j, none⟩ := by simp [Addr.add]; exact Eq.symm
    rw [q, World.cell?_alloc_at _ _ _ _ rfl]
    rw [← hcs] at hu
    simpa using hu
  · simpa using h2
  · exact (Kep.refl B _).row h3 (by simp; omega) (fun k q => (hown.lt k q).1)
theorem own_drewN {w : World} {base : Nat} {e : TypeId} {size : Nat} {v : Value} {m n : Nat} {xs : List Value} (h : w.ownsRow base e size v n xs) : (w.drewN m).ownsRow base e size v n xs := h
theorem kep_drewN {B : Nat} {a w : World} (h : Kep B a w) (m : Nat) : Kep B a (w.drewN m) := ⟨h.os, h.output, h.size, h.block⟩
/-- What a slice owns it owns where the blocks from B on are as they were. -/
theorem own_kep {w w' : World} {B B' : Nat} {e : TypeId} {size n : Nat} {v : Value} {xs : List Value} (h : w.ownsRow B e size v n xs) (k : Kep B' w w') (hb : w.heap.size ≤ B') : w'.ownsRow B e size v n xs := by
  refine ⟨h.1, ?_⟩
  rcases h.2 with hn | ⟨g, cap, cur, rfl, hg, hgg, rest⟩
  · exact .inl hn
  · refine .inr ⟨g, cap, cur, rfl, hg, ?_, rest⟩
    have hlt : g < w.heap.size := (Array.getElem?_eq_some_iff.1 hgg).1
    rw [k.block g (by omega)]
    exact hgg
theorem kep_next {a b c : World} (h : Kep a.heap.size a b) (k : Kep b.heap.size b c) : Kep a.heap.size a c := h.trans (k.mono h.size)
theorem kep_more {a b : World} (h : Kep a.heap.size a b) (o : Obj) : Kep a.heap.size a (b.alloc o) := h.alloc h.size o
theorem kep_drew {a b : World} (h : Kep a.heap.size a b) : Kep a.heap.size a b.drew := h.drew
theorem wrap_ib {n q : Int} (h : wrap32 n = q) : IntKind.i32.wrap n = q := by rw [← h, IntKind.wrap_i32]; unfold wrap32; rfl
/-- A contract that says Grown says Kep. -/
theorem kep_calls {P : Program} {f : Nat} {args : Array Value} {V : Ending} {w : World} (h : Calls P f args w fun e w' => e = V ∧ Grown w w') : Calls P f args w fun e w' => e = V ∧ Kep w.heap.size w w' := h.mono fun _ _ h => ⟨h.1, Kep.of_grown h.2⟩
/-- A slice laid down at once. -/
theorem sq_new {α : Type} {f : α → List Value} {n : Nat} (hf : ∀ x, (f x).length = n) (W : World) (L : List α) (cs : Array Value) (hcs : cs.toList = L.flatMap f) (t : TypeId) (b : Nat) (hb : b = W.heap.size) (m cap : Nat) (hm : m = L.length) : Sq f n (W.alloc (.cells cs t)) (.slice (some ⟨b, 0, none⟩) m cap) L := by
  subst hb hm
  refine ⟨_, cap, rfl, fun k x hx => ⟨_, 0, rfl, fun i u hu => ?_⟩⟩
  have hi : i < n := by have := (List.getElem?_eq_some_iff.1 hu).1; rwa [hf] at this
  rw [← cat_get hf L k x hx i hi, ← hcs] at hu
  rw [World.cell?_alloc_at _ _ _ _ rfl, Nat.zero_add]
  simpa using hu
/-- As Kep, with the tape: what a call that an iterator makes must say. -/
abbrev Bel (w w' : World) : Prop := Below w.heap.size w w'
theorem bel_next {a b c : World} (h : Bel a b) (k : Bel b c) : Bel a c := h.trans (k.mono h.size)
theorem bel_more {a b : World} (h : Bel a b) (o : Obj) : Bel a (b.alloc o) := h.alloc h.size o
theorem bel_drew {a b : World} (h : Bel a b) : Bel a b.drew := h.drew
theorem bel_set {a b : World} (h : Bel a b) {p : Addr} (hp : a.heap.size ≤ p.block) (u : Value) : Bel a (b.setCell p u) := h.setCell hp u
theorem bel_all {w w' : World} (h : Bel w w') {a : Addr} {v : Value} (hv : w.cell? a = some v) : w'.cell? a = some v := (h.cell (p := a) (World.block_lt_of_cell? _ _ hv)).trans hv
theorem bel_grown {w w' : World} (h : Bel w w') : w.grownBy w' none := ⟨h.os, h.tape, h.output, h.size, fun k hk _ => h.block k hk⟩
/-- A contract that says Bel says Kep. -/
theorem bel_calls {P : Program} {f : Nat} {args : Array Value} {V : Ending} {w : World} (h : Calls P f args w fun e w' => e = V ∧ Bel w w') : Calls P f args w fun e w' => e = V ∧ Kep w.heap.size w w' := h.mono fun _ _ h => ⟨h.1, Kep.of_below h.2⟩
theorem bel_frozen {W w1 : World} (g : Bel W w1) {b o : Nat} (h : W.frozen? ⟨b, o, none⟩ = false) (hb : b < W.heap.size) : w1.frozen? ⟨b, o, none⟩ = false := (World.frozen?_of_block (w := W) (g.block b hb)).trans h
theorem some_lt {w : World} {a : Addr} (h : (w.cell? a).isSome = true) : a.block < w.heap.size := by
  obtain ⟨u, hu⟩ := Option.isSome_iff_exists.1 h
  exact World.block_lt_of_cell? _ _ hu
theorem kep_some {w w' : World} (g : Kep w.heap.size w w') {a : Addr} (h : (w.cell? a).isSome = true) : (w'.cell? a).isSome = true := by rw [g.cell (some_lt h)]; exact h
theorem kep_froz {w w' : World} (g : Kep w.heap.size w w') {a : Addr} (s : (w.cell? a).isSome = true) (h : w.frozen? a = false) : w'.frozen? a = false := by rw [g.frozen (some_lt s)]; exact h
theorem bel_some {w w' : World} (g : Bel w w') {a : Addr} (h : (w.cell? a).isSome = true) : (w'.cell? a).isSome = true := kep_some (Kep.of_below g) h
theorem bel_froz {w w' : World} (g : Bel w w') {a : Addr} (s : (w.cell? a).isSome = true) (h : w.frozen? a = false) : w'.frozen? a = false := kep_froz (Kep.of_below g) s h
theorem kep_set {a b : World} (h : Kep a.heap.size a b) {p : Addr} (hp : a.heap.size ≤ p.block) (u : Value) : Kep a.heap.size a (b.setCell p u) := h.setCell hp u
theorem sset_some {W : World} (a b : Addr) (v : Value) (h : (W.cell? b).isSome = true) : ((W.setCell a v).cell? b).isSome = true := by
  by_cases c : a = b
  · subst c; rw [World.cell?_setCell_same' _ _ _ h]; rfl
  · rw [World.cell?_setCell_other (h := c)]; exact h
theorem sset_far {W : World} {p a : Addr} {v u : Value} (h : W.cell? a = some u) (c : p.block ≠ a.block) : (W.setCell p v).cell? a = some u := by
  rw [World.cell?_setCell_far _ _ _ _ c]; exact h
theorem sset_froz {W : World} {p a : Addr} {v : Value} (h : W.frozen? a = false) : (W.setCell p v).frozen? a = false := by
  rw [World.frozen?_setCell]; exact h
/-- A slice is no longer than its room. -/
def Rmy (v : Value) : Prop := ∀ b n c, v = .slice b n c → n ≤ c
theorem own_rmy {w : World} {B : Nat} {t : TypeId} {size n : Nat} {v : Value} {xs : List Value} (h : w.ownsRow B t size v n xs) : Rmy v := fun b m c e => by
  rcases h.2 with ⟨rfl, _⟩ | ⟨g, cap, cur, rfl, _, _, hc, _⟩
  · injection e with _ e1 e2
    omega
  · injection e with _ e1 e2
    omega
theorem add_off (g off j : Nat) : (⟨g, off, none⟩ : Addr).add j = ⟨g, off + j, none⟩ := by unfold Addr.add; split <;> simp_all
/-- The cells of a slice, one after another. -/
theorem Sq.cells {α : Type} {f : α → List Value} {n : Nat} (hf : ∀ x, (f x).length = n) {w : World} {a : Addr} {m cap : Nat} {D : List α} (h : Sq f n w (.slice (some a) m cap) D) : ∀ (j : Nat) (u : Value), (D.flatMap f)[j]? = some u → w.cell? (a.add j) = some u := fun j u hu => by
  obtain ⟨base, c, e, hc⟩ := h
  injection e with e1 e2 e3
  have hj : j < (D.flatMap f).length := (List.getElem?_eq_some_iff.1 hu).1
  rw [cat_len hf] at hj
  have hn : 0 < n := by
    rcases Nat.eq_zero_or_pos n with rfl | h
    · simp at hj
    · exact h
  have hk : j / n < D.length := (Nat.div_lt_iff_lt_mul hn).2 hj
  obtain ⟨g, off, e4, hi⟩ := hc (j / n) _ (List.getElem?_eq_getElem hk)
  rw [e4] at e1
  injection e1 with e1
  have hd : j / n * n + j % n = j := by rw [Nat.mul_comm]; exact Nat.div_add_mod j n
  have q := cat_get hf D (j / n) _ (List.getElem?_eq_getElem hk) (j % n) (Nat.mod_lt _ hn)
  rw [hd, hu] at q
  have r := hi (j % n) u q.symm
  rw [e1, add_off]
  rw [show off + j / n * n + j % n = off + j by omega] at r
  exact r
/-- A whole list appended to a slice of the call's own. -/
theorem wpList_appAll {α : Type} (f : α → List Value) (n : Nat) (hf : ∀ x, (f x).length = n) (h1 : ∀ x, ∀ u ∈ f x, u.oneCell' = true) {P : Program} {ops : Array Oper} {rest : List Oper} {o : Oper} {a : Act} {Q : Exit → Act → World → Prop} (hgd : o.guard = none) (s x : Operand) (t : TypeId)
    (ho : o.op = .call { callee := .builtin .append, args := #[s, x], argTypes := #[t, t] }) (e : TypeId) (z : Value) (bytes : Nat) (ht : P.underlying t = some (.slice e))
    (hi : (P.info? e).map (fun i => (i.zero, i.size, i.bytes)) = some (some z, n, bytes)) (hzs : z.cells.size = n) (hn : 0 < n)
    (B : Nat) (W : World) (v vx : Value) (L D : List α) (hs : a.eval s = v) (hown : W.ownsRow B e n v L.length (L.flatMap f)) (hx : a.eval x = vx) (hq : Sq f n W vx D) (hl : L.length + D.length ≤ maxLen) (hby : (L.length + D.length) * bytes ≤ 140737488355328) (hB : B ≤ W.heap.size)
    (h : ∀ v' w', w'.ownsRow B e n v' (L ++ D).length ((L ++ D).flatMap f) → Kep B W w' → wpList P ops Q rest (a.put o.dst v') w') : wpList P ops Q (o :: rest) a W := by
  obtain ⟨i0, hi0, hz0, hz1, hz2⟩ := info_parts hi
  obtain ⟨base, cap, rfl⟩ := hq.shape
  cases base with
  | some ad =>
    refine wpList_append_own _ hgd s x t ho B e i0 z n bytes ht hi0 hz0 hz1 hz2 hzs hn v L.length (L.flatMap f) hs hown ad D.length cap (D.flatMap f) hx (cat_len hf D) (hq.cells hf) (fun u hu => ?_) hl hby hB fun v' w' h2 h3 _ => h v' w' ?_ ?_
    · obtain ⟨y, _, hy⟩ := List.mem_flatMap.1 hu
      exact h1 y u hy
    · simpa using h2
    · exact (Kep.refl B W).row h3 hB (fun k q => (hown.lt k q).1)
  | none =>
    have hD : D = [] := by
      cases D with
      | nil => rfl
      | cons y D =>
        obtain ⟨_, _, e0, hc⟩ := hq
        injection e0 with e1
        obtain ⟨g, off, e2, _⟩ := hc 0 y rfl
        rw [← e1] at e2
        cases e2
    subst hD
    have hr : (Builtin.append_ #[t, t] o.type #[v, .slice none 0 cap]).run P W = .ok v W := by
      rcases hown.2 with ⟨rfl, _⟩ | ⟨g, cp, cur, rfl, _, _, hc, _⟩
      · simp [Builtin.append_, run_underlying ht, sizeOf, typeInfo, hi0, Builtin.lenOf, Builtin.firstCells]
      · simp [Builtin.append_, run_underlying ht, sizeOf, typeInfo, hi0, Builtin.lenOf, run_firstCells_none, storeCells, hc]
    refine wpList_plain hgd fun K hK => ?_
    unfold Oper.wp execOp
    simp only [ho, resolve, invoke, builtin, Sem.run_bind, Sem.run_pure, Result.andThen_ok, List.map_toArray, List.map_cons, List.map_nil, hs, hx, List.length_nil, hr]
    exact hK _ _ (h v W (by simpa using hown) (Kep.refl _ _))
/-- As wpList_appAll, at a step of a region that draws its order. -/
theorem step_appAll {α : Type} (f : α → List Value) (n : Nat) (hf : ∀ x, (f x).length = n) (h1 : ∀ x, ∀ u ∈ f x, u.oneCell' = true) {P : Program} {ops : Array Oper} {o : Oper} {a : Act} {K : Act → World → Prop} {Q : Exit → Act → World → Prop} {E : Prop} (hgd : o.guard = none) (s x : Operand) (t : TypeId)
    (ho : o.op = .call { callee := .builtin .append, args := #[s, x], argTypes := #[t, t] }) (e : TypeId) (z : Value) (bytes : Nat) (ht : P.underlying t = some (.slice e))
    (hi : (P.info? e).map (fun i => (i.zero, i.size, i.bytes)) = some (some z, n, bytes)) (hzs : z.cells.size = n) (hn : 0 < n)
    (B : Nat) (W : World) (v vx : Value) (L D : List α) (hs : a.eval s = v) (hown : W.ownsRow B e n v L.length (L.flatMap f)) (hx : a.eval x = vx) (hq : Sq f n W vx D) (hl : L.length + D.length ≤ maxLen) (hby : (L.length + D.length) * bytes ≤ 140737488355328) (hB : B ≤ W.heap.size)
    (h : ∀ v' w', w'.ownsRow B e n v' (L ++ D).length ((L ++ D).flatMap f) → Kep B W w' → K (a.put o.dst v') w') : if Region.wanted o (yielded ops a.tmps) = true then Oper.wp P o a W K Q else E := by
  have hw : Region.wanted o (yielded ops a.tmps) = true := by simp [Region.wanted, hgd]
  rw [if_pos hw]
  obtain ⟨i0, hi0, hz0, hz1, hz2⟩ := info_parts hi
  obtain ⟨base, cap, rfl⟩ := hq.shape
  cases base with
  | some ad =>
    refine wp_append_own _ s x t ho B e i0 z n bytes ht hi0 hz0 hz1 hz2 hzs hn v L.length (L.flatMap f) hs hown ad D.length cap (D.flatMap f) hx (cat_len hf D) (hq.cells hf) (fun u hu => ?_) hl hby hB fun v' w' h2 h3 _ => h v' w' ?_ ?_
    · obtain ⟨y, _, hy⟩ := List.mem_flatMap.1 hu
      exact h1 y u hy
    · simpa using h2
    · exact (Kep.refl B W).row h3 hB (fun k q => (hown.lt k q).1)
  | none =>
    have hD : D = [] := by
      cases D with
      | nil => rfl
      | cons y D =>
        obtain ⟨_, _, e0, hc⟩ := hq
        injection e0 with e1
        obtain ⟨g, off, e2, _⟩ := hc 0 y rfl
        rw [← e1] at e2
        cases e2
    subst hD
    have hr : (Builtin.append_ #[t, t] o.type #[v, .slice none 0 cap]).run P W = .ok v W := by
      rcases hown.2 with ⟨rfl, _⟩ | ⟨g, cp, cur, rfl, _, _, hc, _⟩
      · simp [Builtin.append_, run_underlying ht, sizeOf, typeInfo, hi0, Builtin.lenOf, Builtin.firstCells]
      · simp [Builtin.append_, run_underlying ht, sizeOf, typeInfo, hi0, Builtin.lenOf, run_firstCells_none, storeCells, hc]
    unfold Oper.wp execOp
    simp only [ho, resolve, invoke, builtin, Sem.run_bind, Sem.run_pure, Result.andThen_ok, List.map_toArray, List.map_cons, List.map_nil, hs, hx, List.length_nil, hr]
    exact (h v W (by simpa using hown) (Kep.refl _ _))
theorem sq_zero {α : Type} {f : α → List Value} {n : Nat} {w : World} {L : List α} {b : Option Addr} {m c : Nat} (hl : L = []) (hm : m = 0) : Sq f n w (.slice b m c) L := by
  subst hl hm
  exact Sq.nil
/-- A list without its first k elements. -/
theorem sq_drop {α : Type} {f : α → List Value} {n : Nat} {w : World} {L : List α} {g off len k c : Nat} (hl : L.length = len) (hc : ∀ (k : Nat) (x : α), L[k]? = some x → ∃ g' off', (some ⟨g, off, none⟩ : Option Addr) = some ⟨g', off', none⟩ ∧ ∀ (i : Nat) (u : Value), (f x)[i]? = some u → w.cell? ⟨g', off' + k * n + i, none⟩ = some u) :
    Sq f n w (.slice (some ⟨g, off + k * n, none⟩) (len - k) c) (L.drop k) := by
  refine ⟨_, c, by rw [List.length_drop, hl], fun j x hx => ⟨g, off + k * n, rfl, fun i u hu => ?_⟩⟩
  rw [List.getElem?_drop] at hx
  obtain ⟨g', off', e, hi⟩ := hc (k + j) x hx
  injection e with e
  injection e with e1 e2
  subst e1 e2
  have := hi i u hu
  rw [Nat.add_mul, ← Nat.add_assoc] at this
  exact this
/-- As wpList_app, with what becomes of every block but the list's own. -/
theorem wpList_app2 {α : Type} (f : α → List Value) (n : Nat) (hf : ∀ x, (f x).length = n) (h1 : ∀ x, ∀ u ∈ f x, u.oneCell' = true) {P : Program} {ops : Array Oper} {rest : List Oper} {o : Oper} {a : Act} {Q : Exit → Act → World → Prop} (hgd : o.guard = none) (s x : Operand) (t : TypeId)
    (ho : o.op = .call { callee := .builtin .append, args := #[s, x], argTypes := #[t, t] }) (e : TypeId) (z : Value) (bytes : Nat) (ht : P.underlying t = some (.slice e))
    (hi : (P.info? e).map (fun i => (i.zero, i.size, i.bytes)) = some (some z, n, bytes)) (hzs : z.cells.size = n) (hn : 0 < n)
    (B : Nat) (W : World) (v : Value) (L : List α) (y : α) (hs : a.eval s = v) (hown : W.ownsRow B e n v L.length (L.flatMap f)) (b : Nat) (hb : b = W.heap.size) (hx : a.eval x = .slice (some ⟨b, 0, none⟩) 1 1)
    (cs : Array Value) (hcs : cs.toList = f y) (hl : L.length + 1 ≤ maxLen) (hby : (L.length + 1) * bytes ≤ 140737488355328) (hB : B ≤ W.heap.size)
    (h : ∀ v' w', w'.ownsRow B e n v' (L ++ [y]).length ((L ++ [y]).flatMap f) → Kep B W w' → (W.alloc (.cells cs e)).grownBy w' v.ownBlock → wpList P ops Q rest (a.put o.dst v') w') : wpList P ops Q (o :: rest) a (W.alloc (.cells cs e)) := by
  subst hb
  obtain ⟨i0, hi0, hz0, hz1, hz2⟩ := info_parts hi
  refine wpList_append_own _ hgd s x t ho B e i0 z n bytes ht hi0 hz0 hz1 hz2 hzs hn v L.length (L.flatMap f) hs (hown.alloc _) ⟨_, 0, none⟩ 1 1 (f y) hx (by rw [hf]; omega) (fun j u hu => ?_) (h1 y) hl hby (by simp; omega) fun v' w' h2 h3 _ => h v' w' ?_ ?_ h3
  · have q : ((⟨W.heap.size, 0, none⟩ : Addr).add j) = ⟨W.heap.size, j, none⟩ := by simp [Addr.add]; exact Eq.symm
    rw [q, World.cell?_alloc_at _ _ _ _ rfl]
    rw [← hcs] at hu
    simpa using hu
  · simpa using h2
  · exact ((Kep.refl B W).alloc hB _).row h3 (by simp; omega) (fun k q => (hown.lt k q).1)
/-- Lists of elements of different types lie apart. -/
theorem own_apart {w : World} {b b' s s' n n' : Nat} {e e' : TypeId} {v v' : Value} {xs xs' : List Value} (h : w.ownsRow b e s v n xs) (k : w.ownsRow b' e' s' v' n' xs') (hne : e ≠ e') : v.ownBlock = none ∨ v.ownBlock ≠ v'.ownBlock := by
  rcases h.2 with ⟨rfl, _⟩ | ⟨g, cap, cur, rfl, _, hg, _⟩
  · exact .inl rfl
  · refine .inr fun q => ?_
    rcases k.2 with ⟨rfl, _⟩ | ⟨g', cap', cur', rfl, _, hg', _⟩
    · simp [Value.ownBlock] at q
    · simp [Value.ownBlock] at q
      subst q
      rw [hg] at hg'
      injection hg' with hg'
      injection hg' with _ e1 _
      exact hne e1
/-- A list of lists: each is a slice. -/
abbrev Sl := Option Addr × Nat × Nat
def sv (s : Sl) : List Value := [.slice s.1 s.2.1 s.2.2]
theorem sv_len (s : Sl) : (sv s).length = 1 := rfl
theorem sv_one (s : Sl) : ∀ u ∈ sv s, u.oneCell' = true := by
  intro u hu
  simp only [sv, List.mem_cons, List.not_mem_nil, or_false] at hu
  subst hu
  rfl
theorem own_slice {w : World} {B : Nat} {t : TypeId} {size n : Nat} {v : Value} {xs : List Value} (h : w.ownsRow B t size v n xs) : ∃ s : Sl, v = .slice s.1 s.2.1 s.2.2 ∧ s.2.1 = n := by
  rcases h.2 with ⟨rfl, rfl⟩ | ⟨g, cap, cur, rfl, _⟩
  · exact ⟨(none, 0, 0), rfl, rfl⟩
  · exact ⟨(_, _, _), rfl, rfl⟩
theorem sq_drop1 {α : Type} {f : α → List Value} {w : World} {L : List α} {g off len k c : Nat} (hl : L.length = len) (hc : ∀ (k : Nat) (x : α), L[k]? = some x → ∃ g' off', (some ⟨g, off, none⟩ : Option Addr) = some ⟨g', off', none⟩ ∧ ∀ (i : Nat) (u : Value), (f x)[i]? = some u → w.cell? ⟨g', off' + k * 1 + i, none⟩ = some u) :
    Sq f 1 w (.slice (some ⟨g, off + k, none⟩) (len - k) c) (L.drop k) := by
  have := sq_drop (k := k) (c := c) hl hc
  rw [Nat.mul_one] at this
  exact this
end Go.Proofs.YtaknmlohnifcdaaGreatDoor
end

section
/-
  The package-level table that package cell reads: its two cells, and that a call keeps them.
-/
namespace Go.Proofs.YtaknmlohnifcdaaGreatDoor
open Go.RowKit

/-- The table's cells hold its two numbers. -/
structure Fac (w : World) : Prop where
  x : w.cell? ⟨0, 0, none⟩ = some (.int .u32 73856093)
  y : w.cell? ⟨0, 1, none⟩ = some (.int .u32 19349663)
theorem Fac.kep {w w' : World} (h : Fac w) (g : Kep w.heap.size w w') : Fac w' := ⟨Kep.all g h.x, Kep.all g h.y⟩
theorem Fac.lt {w : World} (h : Fac w) : 0 < w.heap.size := World.block_lt_of_cell? _ _ h.x
theorem Fac.drew {w : World} (h : Fac w) : Fac w.drew := ⟨by rw [World.cell?_drew]; exact h.x, by rw [World.cell?_drew]; exact h.y⟩
theorem Fac.alloc {w : World} (h : Fac w) (o : Obj) : Fac (w.alloc o) := h.kep (Kep.alloc (Kep.refl _ _) (Nat.le_refl _) o)
end Go.Proofs.YtaknmlohnifcdaaGreatDoor
end

section
/-
  A block of the call's own that holds a struct: its cells at once, and a struct stored into it (no program).
-/
namespace Go.Proofs.YtaknmlohnifcdaaGreatDoor
open Go.RowKit Go.Lib

/-- The cells of block b from 0 on are vs, and none of the block's cells is frozen. -/
structure ZC (w : World) (b : Nat) (vs : List Value) : Prop where
  at_ : ∀ (i : Nat) (u : Value), vs[i]? = some u → w.cell? ⟨b, i, none⟩ = some u
  frz : ∀ i, w.frozen? ⟨b, i, none⟩ = false
  lt : b < w.heap.size
theorem ZC.kep {w w' : World} {b : Nat} {vs : List Value} (h : ZC w b vs) (g : Kep w.heap.size w w') : ZC w' b vs :=
  ⟨fun i u hu => g.all (h.at_ i u hu), fun i => (g.frozen (p := ⟨b, i, none⟩) h.lt).trans (h.frz i), Nat.lt_of_lt_of_le h.lt g.size⟩
theorem ZC.drew {w : World} {b : Nat} {vs : List Value} (h : ZC w b vs) : ZC w.drew b vs := h.kep (kep_drew (Kep.refl _ _))
theorem ZC.more {w : World} {b : Nat} {vs : List Value} (h : ZC w b vs) (o : Obj) : ZC (w.alloc o) b vs := h.kep (kep_more (Kep.refl _ _) o)
theorem zc_new (w : World) (l : List Value) (t : TypeId) : ZC (w.alloc (.cells ⟨l⟩ t)) w.heap.size l := by
  refine ⟨fun i u hu => ?_, fun i => ?_, by simp⟩
  · rw [World.cell?_alloc_at _ _ _ _ rfl]
    simpa using hu
  · exact World.frozen?_alloc_at _ _ _ _ rfl
/-- A struct stored cell by cell. -/
def setAll (w : World) (b : Nat) : Nat → List Value → World
  | _, [] => w
  | o, v :: l => setAll (w.setCell ⟨b, o, none⟩ v) b (o + 1) l
theorem setAll_size (b : Nat) : ∀ (l : List Value) (o : Nat) (w : World), (setAll w b o l).heap.size = w.heap.size
  | [], _, _ => rfl
  | v :: l, o, w => by
    unfold setAll
    rw [setAll_size b l, World.size_setCell]
theorem setAll_froz (b : Nat) : ∀ (l : List Value) (o : Nat) (w : World) (a : Addr), (setAll w b o l).frozen? a = w.frozen? a
  | [], _, _, _ => rfl
  | v :: l, o, w, a => by
    unfold setAll
    rw [setAll_froz b l, World.frozen?_setCell]
theorem setAll_far (b : Nat) : ∀ (l : List Value) (o : Nat) (w : World) {c i : Nat} {u : Value}, c ≠ b → w.cell? ⟨c, i, none⟩ = some u → (setAll w b o l).cell? ⟨c, i, none⟩ = some u
  | [], _, _, _, _, _, _, h => h
  | v :: l, o, w, c, i, u, hc, h => by
    unfold setAll
    exact setAll_far b l (o + 1) _ hc (sset_far h (fun e => hc e.symm))
theorem setAll_low (b : Nat) : ∀ (l : List Value) (o : Nat) (w : World) {i : Nat} {u : Value}, i < o → w.cell? ⟨b, i, none⟩ = some u → (setAll w b o l).cell? ⟨b, i, none⟩ = some u
  | [], _, _, _, _, _, h => h
  | v :: l, o, w, i, u, hi, h => by
    unfold setAll
    refine setAll_low b l (o + 1) _ (by omega) ?_
    rw [World.cell?_setCell_other (h := by intro e; injection e with _ e2; omega)]
    exact h
theorem setAll_at (b : Nat) : ∀ (l : List Value) (o : Nat) (w : World), (∀ j, j < l.length → (w.cell? ⟨b, o + j, none⟩).isSome = true) → ∀ (i : Nat) (u : Value), l[i]? = some u → (setAll w b o l).cell? ⟨b, o + i, none⟩ = some u
  | [], _, _, _, _, _, h => by simp at h
  | v :: l, o, w, hs, 0, u, h => by
    simp at h
    subst h
    unfold setAll
    refine setAll_low b l (o + 1) _ (by omega) ?_
    exact World.cell?_setCell_same' _ _ _ (hs 0 (by simp))
  | v :: l, o, w, hs, i + 1, u, h => by
    unfold setAll
    have := setAll_at b l (o + 1) (w.setCell ⟨b, o, none⟩ v) (fun j hj => sset_some _ _ _ (by
      have := hs (j + 1) (by simp; omega)
      rw [show o + 1 + j = o + (j + 1) by omega]
      exact this)) i u (by simpa using h)
    rw [show o + (i + 1) = o + 1 + i by omega]
    exact this
theorem ZC.set {w : World} {b : Nat} {vs : List Value} (h : ZC w b vs) (us : List Value) (hl : us.length ≤ vs.length) : ZC (setAll w b 0 us) b us := by
  refine ⟨fun i u hu => ?_, fun i => by rw [setAll_froz]; exact h.frz i, by rw [setAll_size]; exact h.lt⟩
  have := setAll_at b us 0 w (fun j hj => by
    rw [Nat.zero_add]
    have hj2 : j < vs.length := by omega
    rw [h.at_ j _ (List.getElem?_eq_getElem hj2)]
    rfl) i u hu
  rw [Nat.zero_add] at this
  exact this
theorem kep_setAll {a : World} {b : Nat} (hb : a.heap.size ≤ b) : ∀ (l : List Value) (o : Nat) {w : World}, Kep a.heap.size a w → Kep a.heap.size a (setAll w b o l)
  | [], _, _, h => h
  | v :: l, o, w, h => by
    unfold setAll
    exact kep_setAll hb l (o + 1) (kep_set h hb v)
theorem ZC.i {w : World} {b : Nat} {vs : List Value} (h : ZC w b vs) {i : Nat} {u : Value} (hu : vs[i]? = some u) : w.cell? ⟨b, i, none⟩ = some u := h.at_ i u hu
theorem zc_new' (w : World) (l : List Value) (t : TypeId) {b : Nat} (h : b = w.heap.size) : ZC (w.alloc (.cells ⟨l⟩ t)) b l := by subst h; exact zc_new w l t
theorem ZC.far {w : World} {b c : Nat} {vs : List Value} (h : ZC w c vs) (hc : c ≠ b) (l : List Value) : ZC (setAll w b 0 l) c vs :=
  ⟨fun i u hu => setAll_far b l 0 w hc (h.at_ i u hu), fun i => by rw [setAll_froz]; exact h.frz i, by rw [setAll_size]; exact h.lt⟩
end Go.Proofs.YtaknmlohnifcdaaGreatDoor
end

section
/-
  A block's cells as one fact (no program): a walk's rule for all of them.
-/
namespace Go.Proofs.YtaknmlohnifcdaaGreatDoor
open Go.RowKit Go.Lib

/-- The cells of block b from 0 on are vs: one rule for all of them. -/
abbrev ZA (w : World) (b : Nat) (vs : List Value) : Prop := ∀ i : Nat, i < vs.length → w.cell? ⟨b, i, none⟩ = vs[i]?
theorem za_kep {w w' : World} {b : Nat} {vs : List Value} (h : ZA w b vs) (g : Kep w.heap.size w w') : ZA w' b vs := fun i hi => by
  have e := h i hi
  rw [List.getElem?_eq_getElem hi] at e ⊢
  exact g.all e
theorem za_lt {w : World} {b : Nat} {v : Value} {vs : List Value} (h : ZA w b (v :: vs)) : b < w.heap.size := World.block_lt_of_cell? w ⟨b, 0, none⟩ ((h 0 (by simp)).trans rfl)
theorem za_at {w : World} {b : Nat} {vs : List Value} (h : ZA w b vs) {i : Nat} {u : Value} (hu : vs[i]? = some u) : w.cell? ⟨b, i, none⟩ = some u := (h i (List.getElem?_eq_some_iff.1 hu).1).trans hu
theorem za_of {w : World} {b : Nat} {vs : List Value} (h : ZC w b vs) : ZA w b vs := fun i hi => by
  rw [List.getElem?_eq_getElem hi]
  exact h.at_ i _ (List.getElem?_eq_getElem hi)
theorem za_new (w : World) (l : List Value) (t : TypeId) {b : Nat} (h : b = w.heap.size) : ZA (w.alloc (.cells ⟨l⟩ t)) b l := za_of (zc_new' w l t h)
theorem za_more {w : World} {b : Nat} {vs : List Value} (h : ZA w b vs) (o : Obj) : ZA (w.alloc o) b vs := za_kep h (kep_more (Kep.refl _ _) o)
/-- The cells of an element of a slice, from o on: the first one, and all of them. -/
abbrev ZE (w : World) (g o : Nat) (vs : List Value) : Prop := w.cell? ⟨g, o, none⟩ = vs[0]? ∧ ∀ i : Nat, i < vs.length → w.cell? ⟨g, o + i, none⟩ = vs[i]?
theorem ze_of {w : World} {g o : Nat} {vs : List Value} (h : ∀ i : Nat, i < vs.length → w.cell? ⟨g, o + i, none⟩ = vs[i]?) (hl : 0 < vs.length := by exact Nat.zero_lt_succ _) : ZE w g o vs := ⟨h 0 hl, h⟩
theorem ze_kep {w w' : World} {g o : Nat} {vs : List Value} (h : ZE w g o vs) (k : Kep w.heap.size w w') (hl : 0 < vs.length := by exact Nat.zero_lt_succ _) : ZE w' g o vs := ze_of (fun i hi => by
  have e := h.2 i hi
  rw [List.getElem?_eq_getElem hi] at e ⊢
  exact k.all e) hl
/-- A block of the entry's, behind the first call. -/
theorem zK {w w' : World} {b : Nat} {vs : List Value} (g : Kep w.heap.size w w') (h : ZA w b vs := by repeat (first | exact za_new _ _ _ (by first | rfl | simp) | refine za_more ?_ _ | refine za_kep ?_ (kep_drew (Kep.refl _ _)))) : ZA w' b vs := za_kep h g
/-- A cell of it. -/
theorem zI {w : World} {b : Nat} {vs : List Value} (h : ZA w b vs) (i : Nat) {u : Value} (hu : vs[i]? = some u := by rfl) : w.cell? ⟨b, i, none⟩ = some u := za_at h hu
end Go.Proofs.YtaknmlohnifcdaaGreatDoor
end

section
/-
  Package wide: what MulShift and Mul return, for all arguments.
-/
namespace Go.Proofs.YtaknmlohnifcdaaGreatDoor
open Go.RowKit Go.Lib

theorem shift_out (a b n : Int) (hn : n < 0 ∨ 63 < n) (w : World) :
    Calls Tryz.prog 80 #[.int .i64 a, .int .i64 b, .int .i64 n] w fun e w' => e = .returned (.tuple #[.int .i64 0, .int .i64 1]) ∧ Grown w w' := by
  by_cases h : n < 0
  · clear hn
    go_enter Tryz.func80, Tryz.ntmps80
    go_wp2
    go_ret2
    exact ⟨rfl, Grown.refl _⟩
  · have h1 : 63 < n := by omega
    clear hn
    go_enter Tryz.func80, Tryz.ntmps80
    go_wp2
    go_ret2
    exact ⟨rfl, Grown.refl _⟩

theorem two_pow (k : Nat) (hk : k ≤ 63) : 0 < (2 : Int) ^ k ∧ (2 : Int) ^ k ≤ 9223372036854775808 := by
  have c : ((2 : Int) ^ k) = ((2 ^ k : Nat) : Int) := by rw [Int.natCast_pow]; rfl
  have h1 : 2 ^ k ≤ 2 ^ 63 := Nat.pow_le_pow_right (by omega) hk
  have h2 := Nat.two_pow_pos k
  rw [c]
  omega

set_option maxHeartbeats 1000000 in
theorem shift_in (a b n : Int) (ha : I64 a) (hb : I64 b) (hn : 0 ≤ n) (hn1 : n ≤ 63) (w : World) :
    Calls Tryz.prog 80 #[.int .i64 a, .int .i64 b, .int .i64 n] w fun e w' => e = .returned (.tuple #[.int .i64 (rv (a * b / 2 ^ n.toNat)), .int .i64 (re (a * b / 2 ^ n.toNat))]) ∧ Grown w w' := by
  have a0 := ha.mag0; have b0 := hb.mag0
  obtain ⟨D, hD⟩ : ∃ D : Int, D = 2 ^ n.toNat := ⟨_, rfl⟩
  have hp := two_pow n.toNat (by omega)
  rw [← hD] at hp ⊢
  have hw : IntKind.u64.wrap (2 ^ n.toNat) = D := by rw [← hD, IntKind.wrap_u64]; omega
  rw [← qs_shift a b D hp.1]
  clear hD
  have e0 : ¬ n < 0 := by omega
  have e1 : ¬ 63 < n := by omega
  go_enter Tryz.func80, Tryz.ntmps80
  go_wp2
  go_region_held3 (fun _ => True) (trivial)
    (first
      | (go_at_call_of 104 (Value.int IntKind.i64 a); refine (mag_any a ha _).mono ?_; rintro e w' ⟨rfl, rfl⟩)
      | (go_at_call_of 104 (Value.int IntKind.i64 b); refine (mag_any b hb _).mono ?_; rintro e w' ⟨rfl, rfl⟩)
      | (go_at_call 103; refine (quot_any (mag a) (mag b) D _ a0.1 a0.2 b0.1 b0.2 hp.1 hp.2 _).mono ?_; rintro e w1 ⟨rfl, hg⟩))
  go_wp2
  go_ret2
  exact ⟨rfl, hg⟩

theorem mulshift_any (a b n : Int) (ha : I64 a) (hb : I64 b) (w : World) :
    Calls Tryz.prog 80 #[.int .i64 a, .int .i64 b, .int .i64 n] w fun e w' => e = .returned (.tuple #[.int .i64 (msv a b n), .int .i64 (mse a b n)]) ∧ Grown w w' := by
  by_cases h : n < 0 ∨ 63 < n
  · have e1 : msv a b n = 0 := if_pos h
    have e2 : mse a b n = 1 := if_pos h
    rw [e1, e2]
    exact shift_out a b n h w
  · have e1 : msv a b n = rv (a * b / 2 ^ n.toNat) := if_neg h
    have e2 : mse a b n = re (a * b / 2 ^ n.toNat) := if_neg h
    rw [e1, e2]
    exact shift_in a b n ha hb (by omega) (by omega) w

end Go.Proofs.YtaknmlohnifcdaaGreatDoor
end

section
/-
  The reference implementation of package wide: its division, bit by bit.
-/
namespace Go.Proofs.YtaknmlohnifcdaaGreatDoor
open Go.RowKit Go.Lib

theorem grown_cell {w w' : World} (h : Grown w w') {b o : Nat} {v : Value} (hb : b < w.heap.size) (hc : w.cell? ⟨b, o, none⟩ = some v) : w'.cell? ⟨b, o, none⟩ = some v := by
  rw [World.keptBut.cell h.1 hb (fun f => f), hc]

/-- A number's eight cells. -/
def Cells8 (w : World) (b : Nat) (z0 z1 z2 z3 z4 z5 z6 z7 : Int) : Prop := b < w.heap.size ∧ w.cell? ⟨b, 0, none⟩ = some (.int .u64 z0) ∧ w.cell? ⟨b, 1, none⟩ = some (.int .u64 z1) ∧ w.cell? ⟨b, 2, none⟩ = some (.int .u64 z2) ∧ w.cell? ⟨b, 3, none⟩ = some (.int .u64 z3) ∧
  w.cell? ⟨b, 4, none⟩ = some (.int .u64 z4) ∧ w.cell? ⟨b, 5, none⟩ = some (.int .u64 z5) ∧ w.cell? ⟨b, 6, none⟩ = some (.int .u64 z6) ∧ w.cell? ⟨b, 7, none⟩ = some (.int .u64 z7)
theorem Cells8.grown {w w' : World} {b : Nat} {z0 z1 z2 z3 z4 z5 z6 z7 : Int} (h : Cells8 w b z0 z1 z2 z3 z4 z5 z6 z7) (g : Grown w w') : Cells8 w' b z0 z1 z2 z3 z4 z5 z6 z7 := by
  obtain ⟨hb, c0, c1, c2, c3, c4, c5, c6, c7⟩ := h
  exact ⟨Nat.lt_of_lt_of_le hb g.2.2, grown_cell g hb c0, grown_cell g hb c1, grown_cell g hb c2, grown_cell g hb c3, grown_cell g hb c4, grown_cell g hb c5, grown_cell g hb c6, grown_cell g hb c7⟩

end Go.Proofs.YtaknmlohnifcdaaGreatDoor
end

section
/-
  Package fx: the contracts of its functions, by named results.
-/
namespace Go.Proofs.YtaknmlohnifcdaaGreatDoor
open Go.RowKit Go.Lib

abbrev Lim2 (n l q : Int) : Prop := ∀ w, Calls Tryz.prog 77 #[.int .i64 n, .int .i64 l] w fun e' w' => e' = .returned (.tuple #[.int .i64 q, .bool (q != n)]) ∧ w = w'

theorem lim2 {n l q : Int} (hn : I64 n) (h0 : 0 ≤ l) (h1 : l < 9223372036854775808) (h : lim n l = q) : Lim2 n l q := fun w => by rw [← h]; exact limit_any n l hn h0 h1 w
end Go.Proofs.YtaknmlohnifcdaaGreatDoor
end

section
/-
  Package body: its slow reference.
-/
namespace Go.Proofs.YtaknmlohnifcdaaGreatDoor
open Go.RowKit Go.Lib

/-- The error that a body has, 0 if none. -/
def chk (r ax ay m o px py vx vy : Int) : Int :=
  if 4096 ≤ r ∧ r ≤ 4194304 then
    if (-4194304 ≤ ax ∧ ax ≤ 4194304) ∧ (-4194304 ≤ ay ∧ ay ≤ 4194304) then
      if 0 ≤ m ∧ m ≤ 1048576 then
        if 0 ≤ o ∧ o ≤ 65536 then
          if (-1073741824 ≤ px ∧ px ≤ 1073741824) ∧ (-1073741824 ≤ py ∧ py ≤ 1073741824) then
            if (-16777216 ≤ vx ∧ vx ≤ 16777216) ∧ (-16777216 ≤ vy ∧ vy ≤ 16777216) then 0 else 9
          else 8
        else 7
      else 6
    else 5
  else 4
abbrev RIn (n l : Int) (c : Bool) : Prop := ∀ w, Calls Tryz.prog 34 #[.int .i32 n, .int .i32 l] w fun e w' => e = .returned (.bool c) ∧ w = w'
abbrev Rab (n q : Int) : Prop := ∀ w, Calls Tryz.prog 48 #[.int .i32 n] w fun e w' => e = .returned (.int .i32 q) ∧ w = w'
abbrev Rck (k r ax ay m o px py vx vy c : Int) : Prop := ∀ w, Calls Tryz.prog 18 #[.agg #[.int .u32 k, .int .i32 r, .int .i32 ax, .int .i32 ay, .int .i32 m, .int .i32 o, .int .i32 px, .int .i32 py, .int .i32 vx, .int .i32 vy]] w fun e w' => e = .returned (.int .i64 c) ∧ Grown w w'

theorem rin {n l : Int} {c : Bool} (h1 : 0 ≤ l) (h2 : l < 2147483648) (hc : decide (-l ≤ n ∧ n ≤ l) = c) : RIn n l c := fun w => by
  have e1 : IntKind.i32.wrap (-l) = -l := by rw [IntKind.wrap_i32]; omega
  have e2 : wrap32 (-l) = -l := by unfold wrap32; omega
  by_cases g1 : -l ≤ n
  · by_cases g2 : n ≤ l
    · obtain rfl : true = c := by rw [← hc, decide_eq_true (And.intro g1 g2)]
      clear hc
      go_enter Tryz.func34, Tryz.ntmps34
      go_wp2
      go_ret
      exact ⟨rfl, rfl⟩
    · obtain rfl : false = c := by rw [← hc, decide_eq_false (fun h => g2 h.2)]
      clear hc
      go_enter Tryz.func34, Tryz.ntmps34
      go_wp2
      go_ret
      exact ⟨rfl, rfl⟩
  · obtain rfl : false = c := by rw [← hc, decide_eq_false (fun h => g1 h.1)]
    clear hc
    go_enter Tryz.func34, Tryz.ntmps34
    go_wp2
    go_ret
    exact ⟨rfl, rfl⟩
theorem rab {n q : Int} (h1 : -2147483648 < n) (h2 : n < 2147483648) (hq : max n (-n) = q) : Rab n q := fun w => by
  have e1 : wrap32 (-n) = -n := by unfold wrap32; omega
  have e2 : IntKind.i32.wrap (-n) = -n := by rw [IntKind.wrap_i32]; omega
  by_cases h : n < 0
  · obtain rfl : -n = q := by omega
    clear hq
    go_enter Tryz.func48, Tryz.ntmps48
    go_wp2
    go_ret
    exact ⟨rfl, rfl⟩
  · obtain rfl : n = q := by omega
    clear hq
    go_enter Tryz.func48, Tryz.ntmps48
    go_wp2
    go_ret
    exact ⟨rfl, rfl⟩
theorem ret_i64 {a b : Int} (h : a = b) : Ending.returned (.int .i64 a) = Ending.returned (.int .i64 b) := by rw [h]
set_option maxRecDepth 100000 in
set_option maxHeartbeats 8000000 in
theorem rck (k r ax ay m o px py vx vy c : Int) (hc : chk r ax ay m o px py vx vy = c) : Rck k r ax ay m o px py vx vy c := fun w => by
  by_cases g0 : r < 4096
  · have HC : Hid (c = 4) := Lib.hid (by rw [← hc]; unfold chk; repeat (first | rw [if_pos (by omega)] | rw [if_neg (by omega)]))
    clear hc
    go_enter Tryz.func18, Tryz.ntmps18
    go_wp2
    go_ret
    exact ⟨ret_i64 HC.out.symm, (Grown.refl _).alloc _ _⟩
  by_cases g1 : 4194304 < r
  · have HC : Hid (c = 4) := Lib.hid (by rw [← hc]; unfold chk; repeat (first | rw [if_pos (by omega)] | rw [if_neg (by omega)]))
    clear hc
    go_enter Tryz.func18, Tryz.ntmps18
    go_wp2
    go_ret
    exact ⟨ret_i64 HC.out.symm, (Grown.refl _).alloc _ _⟩
  by_cases g2 : ¬ (-4194304 ≤ ax ∧ ax ≤ 4194304)
  · have Jax := Lib.hid (rin (n := ax) (l := 4194304) (c := false) (by decide) (by decide) (decide_eq_false g2))
    have HC : Hid (c = 5) := Lib.hid (by rw [← hc]; unfold chk; repeat (first | rw [if_pos (by omega)] | rw [if_neg (by omega)]))
    clear hc
    go_enter Tryz.func18, Tryz.ntmps18
    go_wp2_with (first
      | ((with_reducible refine (Jax.out _).mono ?_); rintro e w' ⟨rfl, rfl⟩))
    go_ret
    exact ⟨ret_i64 HC.out.symm, (Grown.refl _).alloc _ _⟩
  replace g2 := Decidable.not_not.1 g2
  have Jax := Lib.hid (rin (n := ax) (l := 4194304) (c := true) (by decide) (by decide) (decide_eq_true g2))
  by_cases g3 : ¬ (-4194304 ≤ ay ∧ ay ≤ 4194304)
  · have Jay := Lib.hid (rin (n := ay) (l := 4194304) (c := false) (by decide) (by decide) (decide_eq_false g3))
    have HC : Hid (c = 5) := Lib.hid (by rw [← hc]; unfold chk; repeat (first | rw [if_pos (by omega)] | rw [if_neg (by omega)]))
    clear hc
    go_enter Tryz.func18, Tryz.ntmps18
    go_wp2_with (first
      | ((with_reducible refine (Jax.out _).mono ?_); rintro e w' ⟨rfl, rfl⟩)
      | ((with_reducible refine (Jay.out _).mono ?_); rintro e w' ⟨rfl, rfl⟩))
    go_ret
    exact ⟨ret_i64 HC.out.symm, (Grown.refl _).alloc _ _⟩
  replace g3 := Decidable.not_not.1 g3
  have Jay := Lib.hid (rin (n := ay) (l := 4194304) (c := true) (by decide) (by decide) (decide_eq_true g3))
  by_cases g4 : m < 0
  · have HC : Hid (c = 6) := Lib.hid (by rw [← hc]; unfold chk; repeat (first | rw [if_pos (by omega)] | rw [if_neg (by omega)]))
    clear hc
    go_enter Tryz.func18, Tryz.ntmps18
    go_wp2_with (first
      | ((with_reducible refine (Jax.out _).mono ?_); rintro e w' ⟨rfl, rfl⟩)
      | ((with_reducible refine (Jay.out _).mono ?_); rintro e w' ⟨rfl, rfl⟩))
    go_ret
    exact ⟨ret_i64 HC.out.symm, (Grown.refl _).alloc _ _⟩
  by_cases g5 : 1048576 < m
  · have HC : Hid (c = 6) := Lib.hid (by rw [← hc]; unfold chk; repeat (first | rw [if_pos (by omega)] | rw [if_neg (by omega)]))
    clear hc
    go_enter Tryz.func18, Tryz.ntmps18
    go_wp2_with (first
      | ((with_reducible refine (Jax.out _).mono ?_); rintro e w' ⟨rfl, rfl⟩)
      | ((with_reducible refine (Jay.out _).mono ?_); rintro e w' ⟨rfl, rfl⟩))
    go_ret
    exact ⟨ret_i64 HC.out.symm, (Grown.refl _).alloc _ _⟩
  by_cases g6 : o < 0
  · have HC : Hid (c = 7) := Lib.hid (by rw [← hc]; unfold chk; repeat (first | rw [if_pos (by omega)] | rw [if_neg (by omega)]))
    clear hc
    go_enter Tryz.func18, Tryz.ntmps18
    go_wp2_with (first
      | ((with_reducible refine (Jax.out _).mono ?_); rintro e w' ⟨rfl, rfl⟩)
      | ((with_reducible refine (Jay.out _).mono ?_); rintro e w' ⟨rfl, rfl⟩))
    go_ret
    exact ⟨ret_i64 HC.out.symm, (Grown.refl _).alloc _ _⟩
  by_cases g7 : 65536 < o
  · have HC : Hid (c = 7) := Lib.hid (by rw [← hc]; unfold chk; repeat (first | rw [if_pos (by omega)] | rw [if_neg (by omega)]))
    clear hc
    go_enter Tryz.func18, Tryz.ntmps18
    go_wp2_with (first
      | ((with_reducible refine (Jax.out _).mono ?_); rintro e w' ⟨rfl, rfl⟩)
      | ((with_reducible refine (Jay.out _).mono ?_); rintro e w' ⟨rfl, rfl⟩))
    go_ret
    exact ⟨ret_i64 HC.out.symm, (Grown.refl _).alloc _ _⟩
  by_cases g8 : ¬ (-1073741824 ≤ px ∧ px ≤ 1073741824)
  · have Jpx := Lib.hid (rin (n := px) (l := 1073741824) (c := false) (by decide) (by decide) (decide_eq_false g8))
    have HC : Hid (c = 8) := Lib.hid (by rw [← hc]; unfold chk; repeat (first | rw [if_pos (by omega)] | rw [if_neg (by omega)]))
    clear hc
    go_enter Tryz.func18, Tryz.ntmps18
    go_wp2_with (first
      | ((with_reducible refine (Jax.out _).mono ?_); rintro e w' ⟨rfl, rfl⟩)
      | ((with_reducible refine (Jay.out _).mono ?_); rintro e w' ⟨rfl, rfl⟩)
      | ((with_reducible refine (Jpx.out _).mono ?_); rintro e w' ⟨rfl, rfl⟩))
    go_ret
    exact ⟨ret_i64 HC.out.symm, (Grown.refl _).alloc _ _⟩
  replace g8 := Decidable.not_not.1 g8
  have Jpx := Lib.hid (rin (n := px) (l := 1073741824) (c := true) (by decide) (by decide) (decide_eq_true g8))
  by_cases g9 : ¬ (-1073741824 ≤ py ∧ py ≤ 1073741824)
  · have Jpy := Lib.hid (rin (n := py) (l := 1073741824) (c := false) (by decide) (by decide) (decide_eq_false g9))
    have HC : Hid (c = 8) := Lib.hid (by rw [← hc]; unfold chk; repeat (first | rw [if_pos (by omega)] | rw [if_neg (by omega)]))
    clear hc
    go_enter Tryz.func18, Tryz.ntmps18
    go_wp2_with (first
      | ((with_reducible refine (Jax.out _).mono ?_); rintro e w' ⟨rfl, rfl⟩)
      | ((with_reducible refine (Jay.out _).mono ?_); rintro e w' ⟨rfl, rfl⟩)
      | ((with_reducible refine (Jpx.out _).mono ?_); rintro e w' ⟨rfl, rfl⟩)
      | ((with_reducible refine (Jpy.out _).mono ?_); rintro e w' ⟨rfl, rfl⟩))
    go_ret
    exact ⟨ret_i64 HC.out.symm, (Grown.refl _).alloc _ _⟩
  replace g9 := Decidable.not_not.1 g9
  have Jpy := Lib.hid (rin (n := py) (l := 1073741824) (c := true) (by decide) (by decide) (decide_eq_true g9))
  by_cases g10 : ¬ (-16777216 ≤ vx ∧ vx ≤ 16777216)
  · have Jvx := Lib.hid (rin (n := vx) (l := 16777216) (c := false) (by decide) (by decide) (decide_eq_false g10))
    have HC : Hid (c = 9) := Lib.hid (by rw [← hc]; unfold chk; repeat (first | rw [if_pos (by omega)] | rw [if_neg (by omega)]))
    clear hc
    go_enter Tryz.func18, Tryz.ntmps18
    go_wp2_with (first
      | ((with_reducible refine (Jax.out _).mono ?_); rintro e w' ⟨rfl, rfl⟩)
      | ((with_reducible refine (Jay.out _).mono ?_); rintro e w' ⟨rfl, rfl⟩)
      | ((with_reducible refine (Jpx.out _).mono ?_); rintro e w' ⟨rfl, rfl⟩)
      | ((with_reducible refine (Jpy.out _).mono ?_); rintro e w' ⟨rfl, rfl⟩)
      | ((with_reducible refine (Jvx.out _).mono ?_); rintro e w' ⟨rfl, rfl⟩))
    go_ret
    exact ⟨ret_i64 HC.out.symm, (Grown.refl _).alloc _ _⟩
  replace g10 := Decidable.not_not.1 g10
  have Jvx := Lib.hid (rin (n := vx) (l := 16777216) (c := true) (by decide) (by decide) (decide_eq_true g10))
  by_cases g11 : ¬ (-16777216 ≤ vy ∧ vy ≤ 16777216)
  · have Jvy := Lib.hid (rin (n := vy) (l := 16777216) (c := false) (by decide) (by decide) (decide_eq_false g11))
    have HC : Hid (c = 9) := Lib.hid (by rw [← hc]; unfold chk; repeat (first | rw [if_pos (by omega)] | rw [if_neg (by omega)]))
    clear hc
    go_enter Tryz.func18, Tryz.ntmps18
    go_wp2_with (first
      | ((with_reducible refine (Jax.out _).mono ?_); rintro e w' ⟨rfl, rfl⟩)
      | ((with_reducible refine (Jay.out _).mono ?_); rintro e w' ⟨rfl, rfl⟩)
      | ((with_reducible refine (Jpx.out _).mono ?_); rintro e w' ⟨rfl, rfl⟩)
      | ((with_reducible refine (Jpy.out _).mono ?_); rintro e w' ⟨rfl, rfl⟩)
      | ((with_reducible refine (Jvx.out _).mono ?_); rintro e w' ⟨rfl, rfl⟩)
      | ((with_reducible refine (Jvy.out _).mono ?_); rintro e w' ⟨rfl, rfl⟩))
    go_ret
    exact ⟨ret_i64 HC.out.symm, (Grown.refl _).alloc _ _⟩
  replace g11 := Decidable.not_not.1 g11
  have Jvy := Lib.hid (rin (n := vy) (l := 16777216) (c := true) (by decide) (by decide) (decide_eq_true g11))
  have HC : Hid (c = 0) := Lib.hid (by rw [← hc]; unfold chk; repeat (first | rw [if_pos (by omega)] | rw [if_neg (by omega)]))
  clear hc
  go_enter Tryz.func18, Tryz.ntmps18
  go_wp2_with (first
    | ((with_reducible refine (Jax.out _).mono ?_); rintro e w' ⟨rfl, rfl⟩)
    | ((with_reducible refine (Jay.out _).mono ?_); rintro e w' ⟨rfl, rfl⟩)
    | ((with_reducible refine (Jpx.out _).mono ?_); rintro e w' ⟨rfl, rfl⟩)
    | ((with_reducible refine (Jpy.out _).mono ?_); rintro e w' ⟨rfl, rfl⟩)
    | ((with_reducible refine (Jvx.out _).mono ?_); rintro e w' ⟨rfl, rfl⟩)
    | ((with_reducible refine (Jvy.out _).mono ?_); rintro e w' ⟨rfl, rfl⟩))
  go_ret
  exact ⟨ret_i64 HC.out.symm, (Grown.refl _).alloc _ _⟩
end Go.Proofs.YtaknmlohnifcdaaGreatDoor
end

section
/-
  What a valid body's parts lie within.
-/
namespace Go.Proofs.YtaknmlohnifcdaaGreatDoor
open Go.RowKit Go.Lib

theorem chk_lim {r ax ay m o px py vx vy : Int} (h : chk r ax ay m o px py vx vy = 0) : (4096 ≤ r ∧ r ≤ 4194304) ∧ ((-4194304 ≤ ax ∧ ax ≤ 4194304) ∧ (-4194304 ≤ ay ∧ ay ≤ 4194304)) ∧ ((-1073741824 ≤ px ∧ px ≤ 1073741824) ∧ (-1073741824 ≤ py ∧ py ≤ 1073741824)) := by
  unfold chk at h
  split at h
  · split at h
    · split at h
      · split at h
        · split at h
          · rename_i h1 h2 h3 h4 h5
            exact ⟨h1, h2, h5⟩
          · omega
        · omega
      · omega
    · omega
  · omega
end Go.Proofs.YtaknmlohnifcdaaGreatDoor
end

section
/-
  Package impulse: its arithmetic (no program).
-/
namespace Go.Proofs.YtaknmlohnifcdaaGreatDoor
open Go.RowKit Go.Lib

/-- A valid body's parts that impulses look at. -/
structure Vb (x : Bd) : Prop where
  m0 : 0 ≤ x.m
  m1 : x.m ≤ 1048576
  o0 : 0 ≤ x.o
  o1 : x.o ≤ 65536
  vx0 : -16777216 ≤ x.vx
  vx1 : x.vx ≤ 16777216
  vy0 : -16777216 ≤ x.vy
  vy1 : x.vy ≤ 16777216
theorem vb_of {x : Bd} (h : chk x.r x.ax x.ay x.m x.o x.px x.py x.vx x.vy = 0) : Vb x := by
  unfold chk at h
  split at h
  · split at h
    · split at h
      · split at h
        · split at h
          · split at h
            · rename_i a1 a2 a3 a4 a5 a6
              exact ⟨by omega, by omega, by omega, by omega, by omega, by omega, by omega, by omega⟩
            · exact absurd h (by decide)
          · exact absurd h (by decide)
        · exact absurd h (by decide)
      · exact absurd h (by decide)
    · exact absurd h (by decide)
  · exact absurd h (by decide)
abbrev Nr (n : Int) : Prop := -65536 ≤ n ∧ n ≤ 65536
/-- The scalar product of a normal and the difference of the velocities. -/
def spI (nx ny : Int) (x y : Bd) : Int := (y.vx - x.vx) * nx + (y.vy - x.vy) * ny
def apI (nx ny : Int) (x y : Bd) : Int := spI nx ny x y / 65536
def bnI (x y : Bd) : Int := max x.o y.o
def stI (nx ny : Int) (x y : Bd) : Int := if 0 ≤ apI nx ny x y ∨ x.m + y.m = 0 then 0 else -(apI nx ny x y) * (65536 + bnI x y) / (x.m + y.m)
def chI (j i n : Int) : Int := j * i / 65536 * n / 65536
theorem mul_bd {a b A B : Int} (ha : -A ≤ a ∧ a ≤ A) (hb : -B ≤ b ∧ b ≤ B) : -(A * B) ≤ a * b ∧ a * b ≤ A * B := by
  have hA : 0 ≤ A := by omega
  have hB : 0 ≤ B := by omega
  have key : ∀ c : Int, 0 ≤ c → c ≤ A → -(A * B) ≤ c * b ∧ c * b ≤ A * B := fun c h0 h1 => by
    have p1 := Int.mul_le_mul_of_nonneg_left hb.2 h0
    have p2 := Int.mul_le_mul_of_nonneg_left hb.1 h0
    have p3 := Int.mul_le_mul_of_nonneg_right h1 hB
    rw [Int.mul_neg] at p2
    omega
  rcases Int.le_total 0 a with c | c
  · exact key a c ha.2
  · have := key (-a) (by omega) (by omega)
    rw [Int.neg_mul] at this
    omega
theorem sp_bd {nx ny : Int} {x y : Bd} (hx : Vb x) (hy : Vb y) (h1 : Nr nx) (h2 : Nr ny) : (-2199023255552 ≤ (y.vx - x.vx) * nx ∧ (y.vx - x.vx) * nx ≤ 2199023255552) ∧ (-2199023255552 ≤ (y.vy - x.vy) * ny ∧ (y.vy - x.vy) * ny ≤ 2199023255552) := by
  have a1 : -33554432 ≤ y.vx - x.vx ∧ y.vx - x.vx ≤ 33554432 := by have := hx.vx0; have := hx.vx1; have := hy.vx0; have := hy.vx1; omega
  have a2 : -33554432 ≤ y.vy - x.vy ∧ y.vy - x.vy ≤ 33554432 := by have := hx.vy0; have := hx.vy1; have := hy.vy0; have := hy.vy1; omega
  have b1 := mul_bd a1 h1
  have b2 := mul_bd a2 h2
  omega
theorem ap_bd {nx ny : Int} {x y : Bd} (hx : Vb x) (hy : Vb y) (h1 : Nr nx) (h2 : Nr ny) : -67108864 ≤ apI nx ny x y ∧ apI nx ny x y ≤ 67108864 := by
  have h := sp_bd hx hy h1 h2
  unfold apI spI
  omega
theorem bn_bd {x y : Bd} (hx : Vb x) (hy : Vb y) : 0 ≤ bnI x y ∧ bnI x y ≤ 65536 := by
  have := hx.o0; have := hx.o1; have := hy.o0; have := hy.o1
  unfold bnI
  omega
theorem num_bd {nx ny : Int} {x y : Bd} (hx : Vb x) (hy : Vb y) (h1 : Nr nx) (h2 : Nr ny) (hv : apI nx ny x y < 0) : 0 ≤ -(apI nx ny x y) * (65536 + bnI x y) ∧ -(apI nx ny x y) * (65536 + bnI x y) ≤ 8796093022208 := by
  have a := ap_bd hx hy h1 h2
  have b := bn_bd hx hy
  have p := mul_bd (a := -(apI nx ny x y)) (b := 65536 + bnI x y) (A := 67108864) (B := 131072) (by omega) (by omega)
  refine ⟨Int.mul_nonneg (by omega) (by omega), by omega⟩
/-- The strength is from 0 to 2^43. -/
theorem st_bd {nx ny : Int} {x y : Bd} (hx : Vb x) (hy : Vb y) (h1 : Nr nx) (h2 : Nr ny) : 0 ≤ stI nx ny x y ∧ stI nx ny x y ≤ 8796093022208 := by
  unfold stI
  split
  · omega
  · rename_i h
    have hn := num_bd hx hy h1 h2 (by omega)
    have hm : 1 ≤ x.m + y.m := by have := hx.m0; have := hy.m0; omega
    generalize -(apI nx ny x y) * (65536 + bnI x y) = N at *
    generalize x.m + y.m = M at *
    refine ⟨Int.ediv_nonneg hn.1 (by omega), ?_⟩
    have := Int.ediv_le_self M hn.1
    omega
/-- What is shifted stays in range. -/
theorem k_bd {j i : Int} (hj : 0 ≤ j ∧ j ≤ 8796093022208) (hi : 0 ≤ i ∧ i ≤ 1048576) : 0 ≤ j * i ∧ j * i ≤ 9223372036854775808 ∧ 0 ≤ j * i / 65536 ∧ j * i / 65536 ≤ 140737488355328 := by
  have p0 := Int.mul_nonneg hj.1 hi.1
  have p1 := Int.mul_le_mul hj.2 hi.2 hi.1 (by decide)
  omega
theorem ch_bd {k n : Int} (hk : 0 ≤ k ∧ k ≤ 140737488355328) (hn : Nr n) : -140737488355328 ≤ k * n / 65536 ∧ k * n / 65536 ≤ 140737488355328 := by
  have p := mul_bd (a := k) (b := n) (A := 140737488355328) (B := 65536) (by omega) hn
  omega
theorem rv_i64 {v : Int} (h1 : -9223372036854775808 ≤ v) (h2 : v < 9223372036854775808) : rv v = v := if_pos ⟨h1, h2⟩
theorem msv_16 {a b : Int} (h1 : -9223372036854775808 ≤ a * b / 65536) (h2 : a * b / 65536 < 9223372036854775808) : msv a b 16 = a * b / 65536 := by
  have e : msv a b 16 = rv (a * b / 65536) := rfl
  rw [e, rv_i64 h1 h2]
end Go.Proofs.YtaknmlohnifcdaaGreatDoor
end

section
/-
  Package impulse: its slow reference.
-/
namespace Go.Proofs.YtaknmlohnifcdaaGreatDoor
open Go.RowKit Go.Lib

def okI (x : Bd) : Prop := chk x.r x.ax x.ay x.m x.o x.px x.py x.vx x.vy = 0
instance (x : Bd) : Decidable (okI x) := by unfold okI; infer_instance
end Go.Proofs.YtaknmlohnifcdaaGreatDoor
end

section
/-
  Package box: boxes as numbers (no program).
-/
namespace Go.Proofs.YtaknmlohnifcdaaGreatDoor

/-- The box is empty. -/
def empB (a b c d : Int) : Bool := decide (c < a ∨ d < b)
def ovlB (a b c d e f g h : Int) : Bool := decide (a ≤ c ∧ b ≤ d ∧ e ≤ g ∧ f ≤ h ∧ a ≤ g ∧ e ≤ c ∧ b ≤ h ∧ f ≤ d)
end Go.Proofs.YtaknmlohnifcdaaGreatDoor
end

section
/-
  Package box: contracts of its functions; its slow reference.
-/
namespace Go.Proofs.YtaknmlohnifcdaaGreatDoor
open Go.RowKit Go.Lib

abbrev BEm (xa ya za ta : Int) (z : Bool) : Prop := ∀ w, Calls Tryz.prog 91 #[.agg #[.int .i32 xa, .int .i32 ya, .int .i32 za, .int .i32 ta]] w fun e w' => e = .returned (.bool z) ∧ Grown w w'
abbrev BOv (xa ya za ta xb yb zb tb : Int) (z : Bool) : Prop := ∀ w, Calls Tryz.prog 74 #[.agg #[.int .i32 xa, .int .i32 ya, .int .i32 za, .int .i32 ta], .agg #[.int .i32 xb, .int .i32 yb, .int .i32 zb, .int .i32 tb]] w fun e w' => e = .returned (.bool z) ∧ Grown w w'
abbrev BOf (k r ax ay m o px py vx vy x y z t : Int) : Prop := ∀ w, Calls Tryz.prog 90 #[.agg #[.int .u32 k, .int .i32 r, .int .i32 ax, .int .i32 ay, .int .i32 m, .int .i32 o, .int .i32 px, .int .i32 py, .int .i32 vx, .int .i32 vy]] w fun e w' => e = .returned (.agg #[.int .i32 x, .int .i32 y, .int .i32 z, .int .i32 t]) ∧ Grown w w'
abbrev REm (xa ya za ta : Int) (z : Bool) : Prop := ∀ w, Calls Tryz.prog 47 #[.agg #[.int .i32 xa, .int .i32 ya, .int .i32 za, .int .i32 ta]] w fun e w' => e = .returned (.bool z) ∧ Grown w w'
abbrev ROv (xa ya za ta xb yb zb tb : Int) (z : Bool) : Prop := ∀ w, Calls Tryz.prog 32 #[.agg #[.int .i32 xa, .int .i32 ya, .int .i32 za, .int .i32 ta], .agg #[.int .i32 xb, .int .i32 yb, .int .i32 zb, .int .i32 tb]] w fun e w' => e = .returned (.bool z) ∧ Grown w w'
abbrev ROf (k r ax ay m o px py vx vy x y z t : Int) : Prop := ∀ w, Calls Tryz.prog 33 #[.agg #[.int .u32 k, .int .i32 r, .int .i32 ax, .int .i32 ay, .int .i32 m, .int .i32 o, .int .i32 px, .int .i32 py, .int .i32 vx, .int .i32 vy]] w fun e w' => e = .returned (.agg #[.int .i32 x, .int .i32 y, .int .i32 z, .int .i32 t]) ∧ Grown w w'
theorem rem (xa ya za ta : Int) (z : Bool) (hz : empB xa ya za ta = z) : REm xa ya za ta z := fun w => by
  by_cases g0 : za < xa
  · obtain rfl : true = z := by rw [← hz]; unfold empB; exact (decide_eq_true (by omega)).symm
    clear hz
    go_enter Tryz.func47, Tryz.ntmps47
    go_wp2
    go_ret
    exact ⟨rfl, (Grown.refl _).alloc _ _⟩
  by_cases g1 : ta < ya
  · obtain rfl : true = z := by rw [← hz]; unfold empB; exact (decide_eq_true (by omega)).symm
    clear hz
    go_enter Tryz.func47, Tryz.ntmps47
    go_wp2
    go_ret
    exact ⟨rfl, (Grown.refl _).alloc _ _⟩
  obtain rfl : false = z := by rw [← hz]; unfold empB; exact (decide_eq_false (by omega)).symm
  clear hz
  go_enter Tryz.func47, Tryz.ntmps47
  go_wp2
  go_ret
  exact ⟨rfl, (Grown.refl _).alloc _ _⟩
theorem rof (k r ax ay m o px py vx vy u v x y x0 y0 x1 y1 : Int) (C1 : Hid (Rab ax u)) (C2 : Hid (Rab ay v)) (hx : wrap32 (u + r) = x) (hy : wrap32 (v + r) = y) (h0 : wrap32 (px - x) = x0) (h1 : wrap32 (py - y) = y0) (h2 : wrap32 (px + x) = x1) (h3 : wrap32 (py + y) = y1) : ROf k r ax ay m o px py vx vy x0 y0 x1 y1 := fun w => by
  have ex : IntKind.i32.wrap (u + r) = x := by rw [← hx, IntKind.wrap_i32]; unfold wrap32; rfl
  have ey : IntKind.i32.wrap (v + r) = y := by rw [← hy, IntKind.wrap_i32]; unfold wrap32; rfl
  have e0 : IntKind.i32.wrap (px - x) = x0 := by rw [← h0, IntKind.wrap_i32]; unfold wrap32; rfl
  have e1 : IntKind.i32.wrap (py - y) = y0 := by rw [← h1, IntKind.wrap_i32]; unfold wrap32; rfl
  have e2 : IntKind.i32.wrap (px + x) = x1 := by rw [← h2, IntKind.wrap_i32]; unfold wrap32; rfl
  have e3 : IntKind.i32.wrap (py + y) = y1 := by rw [← h3, IntKind.wrap_i32]; unfold wrap32; rfl
  go_enter Tryz.func33, Tryz.ntmps33
  go_wp2_with fail
  go_region_held3 (fun w' => w'.cell? ⟨w.heap.size, 1, none⟩ = some (.int .i32 r) ∧ w'.cell? ⟨w.heap.size, 2, none⟩ = some (.int .i32 ax) ∧ w'.cell? ⟨w.heap.size, 3, none⟩ = some (.int .i32 ay) ∧ w'.cell? ⟨w.heap.size, 6, none⟩ = some (.int .i32 px) ∧ w'.cell? ⟨w.heap.size, 7, none⟩ = some (.int .i32 py) ∧ Grown w w')
    (first
      | (with_reducible assumption)
      | first | exact ⟨by rw [World.cell?_drew, World.cell?_alloc_past _ _ _ (by simp), World.cell?_alloc_at _ _ _ _ rfl]; rfl, by rw [World.cell?_drew, World.cell?_alloc_past _ _ _ (by simp), World.cell?_alloc_at _ _ _ _ rfl]; rfl, by rw [World.cell?_drew, World.cell?_alloc_past _ _ _ (by simp), World.cell?_alloc_at _ _ _ _ rfl]; rfl, by rw [World.cell?_drew, World.cell?_alloc_past _ _ _ (by simp), World.cell?_alloc_at _ _ _ _ rfl]; rfl, by rw [World.cell?_drew, World.cell?_alloc_past _ _ _ (by simp), World.cell?_alloc_at _ _ _ _ rfl]; rfl, (((Grown.refl _).alloc _ _).alloc _ _).drew⟩ | (go_split_ands; exact ⟨by rw [World.cell?_drew]; assumption, by rw [World.cell?_drew]; assumption, by rw [World.cell?_drew]; assumption, by rw [World.cell?_drew]; assumption, by rw [World.cell?_drew]; assumption, Grown.drew (by assumption)⟩))
    (first
      | ((with_reducible refine (C1.out _).mono ?_); rintro e w' ⟨rfl, rfl⟩)
      | ((with_reducible refine (C2.out _).mono ?_); rintro e w' ⟨rfl, rfl⟩))
  go_split_ands
  go_wp2_with fail
  go_region_held3 (fun w' => w'.cell? ⟨w.heap.size, 1, none⟩ = some (.int .i32 r) ∧ w'.cell? ⟨w.heap.size, 2, none⟩ = some (.int .i32 ax) ∧ w'.cell? ⟨w.heap.size, 3, none⟩ = some (.int .i32 ay) ∧ w'.cell? ⟨w.heap.size, 6, none⟩ = some (.int .i32 px) ∧ w'.cell? ⟨w.heap.size, 7, none⟩ = some (.int .i32 py) ∧ Grown w w')
    (first
      | (with_reducible assumption)
      | first | exact ⟨by rw [World.cell?_drew, World.cell?_alloc_past _ _ _ (by simp), World.cell?_alloc_at _ _ _ _ rfl]; rfl, by rw [World.cell?_drew, World.cell?_alloc_past _ _ _ (by simp), World.cell?_alloc_at _ _ _ _ rfl]; rfl, by rw [World.cell?_drew, World.cell?_alloc_past _ _ _ (by simp), World.cell?_alloc_at _ _ _ _ rfl]; rfl, by rw [World.cell?_drew, World.cell?_alloc_past _ _ _ (by simp), World.cell?_alloc_at _ _ _ _ rfl]; rfl, by rw [World.cell?_drew, World.cell?_alloc_past _ _ _ (by simp), World.cell?_alloc_at _ _ _ _ rfl]; rfl, (((Grown.refl _).alloc _ _).alloc _ _).drew⟩ | (go_split_ands; exact ⟨by rw [World.cell?_drew]; assumption, by rw [World.cell?_drew]; assumption, by rw [World.cell?_drew]; assumption, by rw [World.cell?_drew]; assumption, by rw [World.cell?_drew]; assumption, Grown.drew (by assumption)⟩))
    (first
      | ((with_reducible refine (C1.out _).mono ?_); rintro e w' ⟨rfl, rfl⟩)
      | ((with_reducible refine (C2.out _).mono ?_); rintro e w' ⟨rfl, rfl⟩))
  go_split_ands
  go_wp2_with fail
  exact bodyPost_ret (v := .agg #[.int .i32 x0, .int .i32 y0, .int .i32 x1, .int .i32 y1]) (by simp [results, Tryz.results33, go_sem]) rfl ⟨rfl, by first | assumption | exact ((((Grown.refl _).alloc _ _).alloc _ _).drew).drew⟩
end Go.Proofs.YtaknmlohnifcdaaGreatDoor
end
