/-
  Slices that read as lists, for elements of any kind; a slice of the call's own appended to (no program).
-/
import Derived.Test.YtllkokfaodpfiaaKep
import Derived.WalkKit
import Derived.Laws.AppendOwn
import Derived.Deep.AppendLies
import Derived.Below
namespace Go.Proofs.Ytllkokfaodpfiaa
open Go.RowKit Go.Lib

/-- What yields in every world that meets S is taken. -/
theorem sT {P : Program} {ops : Array Oper} {Q : Exit → Act → World → Prop} {md : Region.Mode} {S : World → Prop} (i : Nat) {oi : Oper} {v : Value} {fuel : Nat} {listed : Array Bool} {a : Act} {w : World} (hS : S w)
    (h : wpAnyH P md ops Q S fuel (listed.setIfInBounds i true) (a.put oi.dst v) w) (hi : ops[i]? = some oi := by (simp only [List.getElem?_toArray, List.getElem?_cons_succ, List.getElem?_cons_zero]; rfl))
    (hv : ∀ w, S w → (execOp a.eval oi).run P w = .ok (.value v) w := by (intro w hSw; (try dsimp only at hSw); go_simp; (try with_reducible rfl)))
    (hw : Region.wanted oi (yielded ops a.tmps) = true := by rfl) (hs : Region.noSelect ops = true := by kernel_rfl) (hf : Region.free md ops listed i = true := by kernel_rfl) (hr : (Region.ready md ops listed).contains i = true := by kernel_rfl)
    (hQ : ∀ c a w, Q (.panic c) (a.put oi.dst v) w → Q (.panic c) a w := by exact fun _ _ _ h => h) : wpAnyH P md ops Q S (fuel + 1) listed a w :=
  wpAnyH_take hi hs hf hr hQ (Or.inl ⟨hw, hv⟩) hS h
/-- The same; the slots are written out behind it. -/
theorem sN {P : Program} {ops : Array Oper} {Q : Exit → Act → World → Prop} {md : Region.Mode} {S : World → Prop} (i : Nat) {oi : Oper} {v : Value} {fuel : Nat} {listed : Array Bool} {a a' : Act} {w : World} (hS : S w)
    (h : wpAnyH P md ops Q S fuel (listed.setIfInBounds i true) a' w) (hi : ops[i]? = some oi := by (simp only [List.getElem?_toArray, List.getElem?_cons_succ, List.getElem?_cons_zero]; rfl))
    (hv : ∀ w, S w → (execOp a.eval oi).run P w = .ok (.value v) w := by (intro w hSw; (try dsimp only at hSw); go_simp; (try with_reducible rfl)))
    (ha : a.put oi.dst v = a' := by ((try simp only [Act.put, List.setIfInBounds_toArray, List.set_cons_zero, List.set_cons_succ]); rfl))
    (hw : Region.wanted oi (yielded ops a.tmps) = true := by rfl) (hs : Region.noSelect ops = true := by kernel_rfl) (hf : Region.free md ops listed i = true := by kernel_rfl) (hr : (Region.ready md ops listed).contains i = true := by kernel_rfl)
    (hQ : ∀ c a w, Q (.panic c) (a.put oi.dst v) w → Q (.panic c) a w := by exact fun _ _ _ h => h) : wpAnyH P md ops Q S (fuel + 1) listed a w :=
  wpAnyH_take hi hs hf hr hQ (Or.inl ⟨hw, hv⟩) hS (by rw [ha]; exact h)
/-- What isn't wanted is passed by. -/
theorem sU {P : Program} {ops : Array Oper} {Q : Exit → Act → World → Prop} {md : Region.Mode} {S : World → Prop} (i : Nat) {oi : Oper} {fuel : Nat} {listed : Array Bool} {a : Act} {w : World} (hS : S w)
    (h : wpAnyH P md ops Q S fuel (listed.setIfInBounds i true) (a.put oi.dst undef) w) (hi : ops[i]? = some oi := by (simp only [List.getElem?_toArray, List.getElem?_cons_succ, List.getElem?_cons_zero]; rfl))
    (hw : Region.wanted oi (yielded ops a.tmps) = false := by rfl) (hs : Region.noSelect ops = true := by kernel_rfl) (hf : Region.free md ops listed i = true := by kernel_rfl) (hr : (Region.ready md ops listed).contains i = true := by kernel_rfl)
    (hQ : ∀ c a w, Q (.panic c) (a.put oi.dst undef) w → Q (.panic c) a w := by exact fun _ _ _ h => h) : wpAnyH P md ops Q S (fuel + 1) listed a w :=
  wpAnyH_take hi hs hf hr hQ (Or.inr ⟨hw, rfl⟩) hS h
/-- The same; the slots are written out behind it. -/
theorem sM {P : Program} {ops : Array Oper} {Q : Exit → Act → World → Prop} {md : Region.Mode} {S : World → Prop} (i : Nat) {oi : Oper} {fuel : Nat} {listed : Array Bool} {a a' : Act} {w : World} (hS : S w)
    (h : wpAnyH P md ops Q S fuel (listed.setIfInBounds i true) a' w) (hi : ops[i]? = some oi := by (simp only [List.getElem?_toArray, List.getElem?_cons_succ, List.getElem?_cons_zero]; rfl))
    (ha : a.put oi.dst undef = a' := by ((try simp only [Act.put, List.setIfInBounds_toArray, List.set_cons_zero, List.set_cons_succ]); rfl))
    (hw : Region.wanted oi (yielded ops a.tmps) = false := by rfl) (hs : Region.noSelect ops = true := by kernel_rfl) (hf : Region.free md ops listed i = true := by kernel_rfl) (hr : (Region.ready md ops listed).contains i = true := by kernel_rfl)
    (hQ : ∀ c a w, Q (.panic c) (a.put oi.dst undef) w → Q (.panic c) a w := by exact fun _ _ _ h => h) : wpAnyH P md ops Q S (fuel + 1) listed a w :=
  wpAnyH_take hi hs hf hr hQ (Or.inr ⟨hw, rfl⟩) hS (by rw [ha]; exact h)
/-- The one operation that may come up is carried out. -/
theorem sC {P : Program} {ops : Array Oper} {Q : Exit → Act → World → Prop} {md : Region.Mode} {S : World → Prop} (i : Nat) {o : Oper} {fuel : Nat} {listed : Array Bool} {a : Act} {w : World}
    (h : ∀ K' : Act → World → Prop, Shut (∀ a w, S w → (S w → wpAnyH P md ops Q S fuel (listed.setIfInBounds i true) a w) → K' a w) → if Region.wanted o (yielded ops a.tmps) = true then Oper.wp P o a w K' Q else K' (a.put o.dst undef) w)
    (ho : ops[i]? = some o := by (simp only [List.getElem?_toArray, List.getElem?_cons_succ, List.getElem?_cons_zero]; rfl)) (hr : Region.ready md ops listed = [i] := by kernel_rfl) : wpAnyH P md ops Q S (fuel + 1) listed a w :=
  wpAnyH_ready hr (by simp) (AllReadyH.cons ho h AllReadyH.nil)
/-- The region's end. -/
theorem sE {P : Program} {ops : Array Oper} {Q : Act → World → Prop} {N : Exit → Act → World → Prop} {md : Region.Mode} {S : World → Prop} {listed : Array Bool} {a : Act} {w : World} {fuel : Nat} (h : Q a w) (hn : Q a w → N .normal a w := by exact fun h => NoPanic.normal h) (hr : Region.ready md ops listed = [] := by kernel_rfl) : wpAnyH P md ops N S fuel listed a w := wpAnyH_done hr (hn h) _
/-- A step of a region by hand: what yields in every world that meets S. -/
theorem rtk {P : Program} {ops : Array Oper} {Q : Exit → Act → World → Prop} {md : Region.Mode} {S : World → Prop} (i : Nat) {oi : Oper} {v : Value} {fuel : Nat} {listed : Array Bool} {a : Act} {w : World} (hi : ops[i]? = some oi)
    (hv : ∀ w, S w → (execOp a.eval oi).run P w = .ok (.value v) w) (hS : S w) (h : wpAnyH P md ops Q S fuel (listed.setIfInBounds i true) (a.put oi.dst v) w)
    (hw : Region.wanted oi (yielded ops a.tmps) = true := by rfl) (hs : Region.noSelect ops = true := by kernel_rfl) (hf : Region.free md ops listed i = true := by kernel_rfl) (hr : (Region.ready md ops listed).contains i = true := by kernel_rfl)
    (hQ : ∀ c a w, Q (.panic c) (a.put oi.dst v) w → Q (.panic c) a w := by exact fun _ _ _ h => h) : wpAnyH P md ops Q S (fuel + 1) listed a w :=
  wpAnyH_take hi hs hf hr hQ (Or.inl ⟨hw, hv⟩) hS h
/-- The same, of a step that is not wanted. -/
theorem rtu {P : Program} {ops : Array Oper} {Q : Exit → Act → World → Prop} {md : Region.Mode} {S : World → Prop} (i : Nat) {oi : Oper} {fuel : Nat} {listed : Array Bool} {a : Act} {w : World} (hi : ops[i]? = some oi)
    (hS : S w) (h : wpAnyH P md ops Q S fuel (listed.setIfInBounds i true) (a.put oi.dst undef) w)
    (hw : Region.wanted oi (yielded ops a.tmps) = false := by rfl) (hs : Region.noSelect ops = true := by kernel_rfl) (hf : Region.free md ops listed i = true := by kernel_rfl) (hr : (Region.ready md ops listed).contains i = true := by kernel_rfl)
    (hQ : ∀ c a w, Q (.panic c) (a.put oi.dst undef) w → Q (.panic c) a w := by exact fun _ _ _ h => h) : wpAnyH P md ops Q S (fuel + 1) listed a w :=
  wpAnyH_take hi hs hf hr hQ (Or.inr ⟨hw, rfl⟩) hS h
/-- The value v is a slice of the elements of L: the cells of x read as f x. -/
def Sq {α : Type} (f : α → List Value) (n : Nat) (w : World) (v : Value) (L : List α) : Prop :=
  ∃ base cap, v = .slice base L.length cap ∧ ∀ (k : Nat) (x : α), L[k]? = some x → ∃ g off, base = some ⟨g, off, none⟩ ∧ ∀ (i : Nat) (u : Value), (f x)[i]? = some u → w.cell? ⟨g, off + k * n + i, none⟩ = some u
theorem Sq.kep {α : Type} {f : α → List Value} {n : Nat} {w w' : World} {v : Value} {L : List α} (h : Sq f n w v L) (g : Kep w.heap.size w w') : Sq f n w' v L := by
  obtain ⟨base, cap, rfl, hc⟩ := h
  refine ⟨base, cap, rfl, fun k x hx => ?_⟩
  obtain ⟨b, off, e, hi⟩ := hc k x hx
  exact ⟨b, off, e, fun i u hu => g.all (hi i u hu)⟩
theorem Sq.nil {α : Type} {f : α → List Value} {n : Nat} {w : World} {base : Option Addr} {cap : Nat} : Sq f n w (.slice base 0 cap) ([] : List α) := ⟨base, cap, rfl, fun k x hx => by simp at hx⟩
theorem Sq.shape {α : Type} {f : α → List Value} {n : Nat} {w : World} {v : Value} {L : List α} (h : Sq f n w v L) : ∃ base cap, v = .slice base L.length cap := by
  obtain ⟨b, c, e, _⟩ := h
  exact ⟨b, c, e⟩
theorem cat_get {α : Type} {f : α → List Value} {n : Nat} (hf : ∀ x, (f x).length = n) : ∀ (s : List α) (k : Nat) (b : α), s[k]? = some b → ∀ i, i < n → (s.flatMap f)[k * n + i]? = (f b)[i]?
  | [], _, _, h, _, _ => by simp at h
  | x :: s, 0, b, h, i, hi => by
    simp at h
    subst h
    simp only [List.flatMap_cons]
    rw [List.getElem?_append_left (by rw [hf]; omega)]
    simp
  | x :: s, k + 1, b, h, i, hi => by
    have e := cat_get hf s k b (by simpa using h) i hi
    simp only [List.flatMap_cons]
    rw [List.getElem?_append_right (by rw [hf, Nat.succ_mul]; omega), hf, show (k + 1) * n + i - n = k * n + i by rw [Nat.succ_mul]; omega]
    exact e
theorem cat_len {α : Type} {f : α → List Value} {n : Nat} (hf : ∀ x, (f x).length = n) : ∀ (s : List α), (s.flatMap f).length = s.length * n
  | [] => by simp
  | x :: s => by rw [List.flatMap_cons, List.length_append, hf, cat_len hf s, List.length_cons, Nat.succ_mul]; omega
theorem own_sq {α : Type} {f : α → List Value} {n : Nat} (hf : ∀ x, (f x).length = n) {w : World} {B : Nat} {t : TypeId} {v : Value} {s : List α} (h : w.ownsRow B t n v s.length (s.flatMap f)) : Sq f n w v s := by
  obtain ⟨_, ⟨rfl, h0⟩ | ⟨g, cap, cur, rfl, _, hg, hn, _, hs, hc⟩⟩ := h
  · have e := List.length_eq_zero_iff.1 h0
    subst e
    exact Sq.nil
  · refine ⟨_, cap, rfl, fun k b hb => ⟨g, 0, rfl, fun i u hu => ?_⟩⟩
    have hk : k < s.length := (List.getElem?_eq_some_iff.1 hb).1
    have hi : i < n := by have := (List.getElem?_eq_some_iff.1 hu).1; rwa [hf] at this
    rw [← cat_get hf s k b hb i hi, ← hc] at hu
    have hlt : k * n + i < s.length * n := by
      have := Nat.mul_le_mul_right n (Nat.succ_le_of_lt hk)
      rw [Nat.succ_mul] at this
      omega
    rw [List.getElem?_take_of_lt hlt] at hu
    simp only [World.cell?, hg, Nat.zero_add]
    simpa using hu
/-- Where what the slice v lies in is new. -/
theorem own_blk {w : World} {B : Nat} {t : TypeId} {size n : Nat} {v : Value} {xs : List Value} (h : w.ownsRow B t size v n xs) : ∀ g, v.ownBlock = some g → B ≤ g ∧ g < w.heap.size := h.lt
/-- An element appended to a slice of the call's own. -/
theorem wpList_app {α : Type} (f : α → List Value) (n : Nat) (hf : ∀ x, (f x).length = n) (h1 : ∀ x, ∀ u ∈ f x, u.oneCell' = true) {P : Program} {ops : Array Oper} {rest : List Oper} {o : Oper} {a : Act} {Q : Exit → Act → World → Prop} (hgd : o.guard = none) (s x : Operand) (t : TypeId)
    (ho : o.op = .call { callee := .builtin .append, args := #[s, x], argTypes := #[t, t] }) (e : TypeId) (z : Value) (bytes : Nat) (ht : P.underlying t = some (.slice e))
    (hi : (P.info? e).map (fun i => (i.zero, i.size, i.bytes)) = some (some z, n, bytes)) (hzs : z.cells.size = n) (hn : 0 < n)
    (B : Nat) (W : World) (v : Value) (L : List α) (y : α) (hs : a.eval s = v) (hown : W.ownsRow B e n v L.length (L.flatMap f)) (b : Nat) (hb : b = W.heap.size) (hx : a.eval x = .slice (some ⟨b, 0, none⟩) 1 1)
    (cs : Array Value) (hcs : cs.toList = f y) (hl : L.length + 1 ≤ maxLen) (hby : (L.length + 1) * bytes ≤ 140737488355328) (hB : B ≤ W.heap.size)
    (h : ∀ v' w', w'.ownsRow B e n v' (L ++ [y]).length ((L ++ [y]).flatMap f) → Kep B W w' → wpList P ops Q rest (a.put o.dst v') w') : wpList P ops Q (o :: rest) a (W.alloc (.cells cs e)) := by
  subst hb
  obtain ⟨i0, hi0, hz0, hz1, hz2⟩ := info_parts hi
  refine wpList_append_own _ hgd s x t ho B e i0 z n bytes ht hi0 hz0 hz1 hz2 hzs hn v L.length (L.flatMap f) hs (hown.alloc _) ⟨_, 0, none⟩ 1 1 (f y) hx (by rw [hf]; omega) (fun j u hu => ?_) (h1 y) hl hby (by simp; omega) fun v' w' h2 h3 _ => h v' w' ?_ ?_
  · have q : ((⟨W.heap.size, 0, none⟩ : Addr).add j) = ⟨W.heap.size, j, none⟩ := by simp [Addr.add]; exact Eq.symm
    rw [q, World.cell?_alloc_at _ _ _ _ rfl]
    rw [← hcs] at hu
    simpa using hu
  · simpa using h2
  · exact ((Kep.refl B W).alloc hB _).row h3 (by simp; omega) (fun k q => (hown.lt k q).1)
/-- As wpList_app, at a step of a region that draws its order. -/
theorem step_app {α : Type} (f : α → List Value) (n : Nat) (hf : ∀ x, (f x).length = n) (h1 : ∀ x, ∀ u ∈ f x, u.oneCell' = true) {P : Program} {ops : Array Oper} {o : Oper} {a : Act} {K : Act → World → Prop} {Q : Exit → Act → World → Prop} {E : Prop} (hgd : o.guard = none) (s x : Operand) (t : TypeId)
    (ho : o.op = .call { callee := .builtin .append, args := #[s, x], argTypes := #[t, t] }) (e : TypeId) (z : Value) (bytes : Nat) (ht : P.underlying t = some (.slice e))
    (hi : (P.info? e).map (fun i => (i.zero, i.size, i.bytes)) = some (some z, n, bytes)) (hzs : z.cells.size = n) (hn : 0 < n)
    (B : Nat) (W : World) (v : Value) (L : List α) (y : α) (hs : a.eval s = v) (hown : W.ownsRow B e n v L.length (L.flatMap f)) (b : Nat) (hb : b = W.heap.size) (hx : a.eval x = .slice (some ⟨b, 0, none⟩) 1 1)
    (cs : Array Value) (hcs : cs.toList = f y) (hl : L.length + 1 ≤ maxLen) (hby : (L.length + 1) * bytes ≤ 140737488355328) (hB : B ≤ W.heap.size)
    (h : ∀ v' w', w'.ownsRow B e n v' (L ++ [y]).length ((L ++ [y]).flatMap f) → Kep B (W.alloc (.cells cs e)) w' → K (a.put o.dst v') w') : if Region.wanted o (yielded ops a.tmps) = true then Oper.wp P o a (W.alloc (.cells cs e)) K Q else E := by
  subst hb
  obtain ⟨i0, hi0, hz0, hz1, hz2⟩ := info_parts hi
  refine step_append_lies _ hgd s x t ho B e i0 z n bytes ht hi0 hz0 hz1 hz2 hzs hn v L.length (L.flatMap f) hs (hown.alloc _) ⟨_, 0, none⟩ 1 1 (f y) hx (by rw [hf]; omega) (fun j u hu => ?_) (h1 y) (by decide) hl hby (by simp; omega) _ rfl fun g cap w' h2 h3 _ _ => h _ w' ?_ ?_
  · have q : ((⟨W.heap.size, 0, none⟩ : Addr).add j) = ⟨W.heap.size, j, none⟩ := by simp [Addr.add]; exact Eq.symm
    rw [q, World.cell?_alloc_at _ _ _ _ rfl]
    rw [← hcs] at hu
    simpa using hu
  · simpa using h2
  · exact (Kep.refl B _).row h3 (by simp; omega) (fun k q => (hown.lt k q).1)
theorem own_drewN {w : World} {base : Nat} {e : TypeId} {size : Nat} {v : Value} {m n : Nat} {xs : List Value} (h : w.ownsRow base e size v n xs) : (w.drewN m).ownsRow base e size v n xs := h
theorem kep_drewN {B : Nat} {a w : World} (h : Kep B a w) (m : Nat) : Kep B a (w.drewN m) := ⟨h.os, h.output, h.size, h.block⟩
/-- What a slice owns it owns where the blocks from B on are as they were. -/
theorem own_kep {w w' : World} {B B' : Nat} {e : TypeId} {size n : Nat} {v : Value} {xs : List Value} (h : w.ownsRow B e size v n xs) (k : Kep B' w w') (hb : w.heap.size ≤ B') : w'.ownsRow B e size v n xs := by
  refine ⟨h.1, ?_⟩
  rcases h.2 with hn | ⟨g, cap, cur, rfl, hg, hgg, rest⟩
  · exact .inl hn
  · refine .inr ⟨g, cap, cur, rfl, hg, ?_, rest⟩
    have hlt : g < w.heap.size := (Array.getElem?_eq_some_iff.1 hgg).1
    rw [k.block g (by omega)]
    exact hgg
theorem kep_next {a b c : World} (h : Kep a.heap.size a b) (k : Kep b.heap.size b c) : Kep a.heap.size a c := h.trans (k.mono h.size)
theorem kep_more {a b : World} (h : Kep a.heap.size a b) (o : Obj) : Kep a.heap.size a (b.alloc o) := h.alloc h.size o
theorem kep_drew {a b : World} (h : Kep a.heap.size a b) : Kep a.heap.size a b.drew := h.drew
theorem wrap_ib {n q : Int} (h : wrap32 n = q) : IntKind.i32.wrap n = q := by rw [← h, IntKind.wrap_i32]; unfold wrap32; rfl
/-- A contract that says Grown says Kep. -/
theorem kep_calls {P : Program} {f : Nat} {args : Array Value} {V : Ending} {w : World} (h : Calls P f args w fun e w' => e = V ∧ Grown w w') : Calls P f args w fun e w' => e = V ∧ Kep w.heap.size w w' := h.mono fun _ _ h => ⟨h.1, Kep.of_grown h.2⟩
/-- A slice laid down at once. -/
theorem sq_new {α : Type} {f : α → List Value} {n : Nat} (hf : ∀ x, (f x).length = n) (W : World) (L : List α) (cs : Array Value) (hcs : cs.toList = L.flatMap f) (t : TypeId) (b : Nat) (hb : b = W.heap.size) (m cap : Nat) (hm : m = L.length) : Sq f n (W.alloc (.cells cs t)) (.slice (some ⟨b, 0, none⟩) m cap) L := by
  subst hb hm
  refine ⟨_, cap, rfl, fun k x hx => ⟨_, 0, rfl, fun i u hu => ?_⟩⟩
  have hi : i < n := by have := (List.getElem?_eq_some_iff.1 hu).1; rwa [hf] at this
  rw [← cat_get hf L k x hx i hi, ← hcs] at hu
  rw [World.cell?_alloc_at _ _ _ _ rfl, Nat.zero_add]
  simpa using hu
/-- As Kep, with the tape: what a call that an iterator makes must say. -/
abbrev Bel (w w' : World) : Prop := Below w.heap.size w w'
theorem bel_next {a b c : World} (h : Bel a b) (k : Bel b c) : Bel a c := h.trans (k.mono h.size)
theorem bel_more {a b : World} (h : Bel a b) (o : Obj) : Bel a (b.alloc o) := h.alloc h.size o
theorem bel_drew {a b : World} (h : Bel a b) : Bel a b.drew := h.drew
theorem bel_set {a b : World} (h : Bel a b) {p : Addr} (hp : a.heap.size ≤ p.block) (u : Value) : Bel a (b.setCell p u) := h.setCell hp u
theorem bel_all {w w' : World} (h : Bel w w') {a : Addr} {v : Value} (hv : w.cell? a = some v) : w'.cell? a = some v := (h.cell (p := a) (World.block_lt_of_cell? _ _ hv)).trans hv
theorem bel_grown {w w' : World} (h : Bel w w') : w.grownBy w' none := ⟨h.os, h.tape, h.output, h.size, fun k hk _ => h.block k hk⟩
/-- A contract that says Bel says Kep. -/
theorem bel_calls {P : Program} {f : Nat} {args : Array Value} {V : Ending} {w : World} (h : Calls P f args w fun e w' => e = V ∧ Bel w w') : Calls P f args w fun e w' => e = V ∧ Kep w.heap.size w w' := h.mono fun _ _ h => ⟨h.1, Kep.of_below h.2⟩
theorem bel_frozen {W w1 : World} (g : Bel W w1) {b o : Nat} (h : W.frozen? ⟨b, o, none⟩ = false) (hb : b < W.heap.size) : w1.frozen? ⟨b, o, none⟩ = false := (World.frozen?_of_block (w := W) (g.block b hb)).trans h
theorem some_lt {w : World} {a : Addr} (h : (w.cell? a).isSome = true) : a.block < w.heap.size := by
  obtain ⟨u, hu⟩ := Option.isSome_iff_exists.1 h
  exact World.block_lt_of_cell? _ _ hu
theorem kep_some {w w' : World} (g : Kep w.heap.size w w') {a : Addr} (h : (w.cell? a).isSome = true) : (w'.cell? a).isSome = true := by rw [g.cell (some_lt h)]; exact h
theorem kep_froz {w w' : World} (g : Kep w.heap.size w w') {a : Addr} (s : (w.cell? a).isSome = true) (h : w.frozen? a = false) : w'.frozen? a = false := by rw [g.frozen (some_lt s)]; exact h
theorem bel_some {w w' : World} (g : Bel w w') {a : Addr} (h : (w.cell? a).isSome = true) : (w'.cell? a).isSome = true := kep_some (Kep.of_below g) h
theorem bel_froz {w w' : World} (g : Bel w w') {a : Addr} (s : (w.cell? a).isSome = true) (h : w.frozen? a = false) : w'.frozen? a = false := kep_froz (Kep.of_below g) s h
theorem kep_set {a b : World} (h : Kep a.heap.size a b) {p : Addr} (hp : a.heap.size ≤ p.block) (u : Value) : Kep a.heap.size a (b.setCell p u) := h.setCell hp u
theorem sset_some {W : World} (a b : Addr) (v : Value) (h : (W.cell? b).isSome = true) : ((W.setCell a v).cell? b).isSome = true := by
  by_cases c : a = b
  · subst c; rw [World.cell?_setCell_same' _ _ _ h]; rfl
  · rw [World.cell?_setCell_other (h := c)]; exact h
theorem sset_far {W : World} {p a : Addr} {v u : Value} (h : W.cell? a = some u) (c : p.block ≠ a.block) : (W.setCell p v).cell? a = some u := by
  rw [World.cell?_setCell_far _ _ _ _ c]; exact h
theorem sset_froz {W : World} {p a : Addr} {v : Value} (h : W.frozen? a = false) : (W.setCell p v).frozen? a = false := by
  rw [World.frozen?_setCell]; exact h
/-- A slice is no longer than its room. -/
def Rmy (v : Value) : Prop := ∀ b n c, v = .slice b n c → n ≤ c
theorem own_rmy {w : World} {B : Nat} {t : TypeId} {size n : Nat} {v : Value} {xs : List Value} (h : w.ownsRow B t size v n xs) : Rmy v := fun b m c e => by
  rcases h.2 with ⟨rfl, _⟩ | ⟨g, cap, cur, rfl, _, _, hc, _⟩
  · injection e with _ e1 e2
    omega
  · injection e with _ e1 e2
    omega
theorem add_off (g off j : Nat) : (⟨g, off, none⟩ : Addr).add j = ⟨g, off + j, none⟩ := by unfold Addr.add; split <;> simp_all
/-- The cells of a slice, one after another. -/
theorem Sq.cells {α : Type} {f : α → List Value} {n : Nat} (hf : ∀ x, (f x).length = n) {w : World} {a : Addr} {m cap : Nat} {D : List α} (h : Sq f n w (.slice (some a) m cap) D) : ∀ (j : Nat) (u : Value), (D.flatMap f)[j]? = some u → w.cell? (a.add j) = some u := fun j u hu => by
  obtain ⟨base, c, e, hc⟩ := h
  injection e with e1 e2 e3
  have hj : j < (D.flatMap f).length := (List.getElem?_eq_some_iff.1 hu).1
  rw [cat_len hf] at hj
  have hn : 0 < n := by
    rcases Nat.eq_zero_or_pos n with rfl | h
    · simp at hj
    · exact h
  have hk : j / n < D.length := (Nat.div_lt_iff_lt_mul hn).2 hj
  obtain ⟨g, off, e4, hi⟩ := hc (j / n) _ (List.getElem?_eq_getElem hk)
  rw [e4] at e1
  injection e1 with e1
  have hd : j / n * n + j % n = j := by rw [Nat.mul_comm]; exact Nat.div_add_mod j n
  have q := cat_get hf D (j / n) _ (List.getElem?_eq_getElem hk) (j % n) (Nat.mod_lt _ hn)
  rw [hd, hu] at q
  have r := hi (j % n) u q.symm
  rw [e1, add_off]
  rw [show off + j / n * n + j % n = off + j by omega] at r
  exact r
/-- A whole list appended to a slice of the call's own. -/
theorem wpList_appAll {α : Type} (f : α → List Value) (n : Nat) (hf : ∀ x, (f x).length = n) (h1 : ∀ x, ∀ u ∈ f x, u.oneCell' = true) {P : Program} {ops : Array Oper} {rest : List Oper} {o : Oper} {a : Act} {Q : Exit → Act → World → Prop} (hgd : o.guard = none) (s x : Operand) (t : TypeId)
    (ho : o.op = .call { callee := .builtin .append, args := #[s, x], argTypes := #[t, t] }) (e : TypeId) (z : Value) (bytes : Nat) (ht : P.underlying t = some (.slice e))
    (hi : (P.info? e).map (fun i => (i.zero, i.size, i.bytes)) = some (some z, n, bytes)) (hzs : z.cells.size = n) (hn : 0 < n)
    (B : Nat) (W : World) (v vx : Value) (L D : List α) (hs : a.eval s = v) (hown : W.ownsRow B e n v L.length (L.flatMap f)) (hx : a.eval x = vx) (hq : Sq f n W vx D) (hl : L.length + D.length ≤ maxLen) (hby : (L.length + D.length) * bytes ≤ 140737488355328) (hB : B ≤ W.heap.size)
    (h : ∀ v' w', w'.ownsRow B e n v' (L ++ D).length ((L ++ D).flatMap f) → Kep B W w' → wpList P ops Q rest (a.put o.dst v') w') : wpList P ops Q (o :: rest) a W := by
  obtain ⟨i0, hi0, hz0, hz1, hz2⟩ := info_parts hi
  obtain ⟨base, cap, rfl⟩ := hq.shape
  cases base with
  | some ad =>
    refine wpList_append_own _ hgd s x t ho B e i0 z n bytes ht hi0 hz0 hz1 hz2 hzs hn v L.length (L.flatMap f) hs hown ad D.length cap (D.flatMap f) hx (cat_len hf D) (hq.cells hf) (fun u hu => ?_) hl hby hB fun v' w' h2 h3 _ => h v' w' ?_ ?_
    · obtain ⟨y, _, hy⟩ := List.mem_flatMap.1 hu
      exact h1 y u hy
    · simpa using h2
    · exact (Kep.refl B W).row h3 hB (fun k q => (hown.lt k q).1)
  | none =>
    have hD : D = [] := by
      cases D with
      | nil => rfl
      | cons y D =>
        obtain ⟨_, _, e0, hc⟩ := hq
        injection e0 with e1
        obtain ⟨g, off, e2, _⟩ := hc 0 y rfl
        rw [← e1] at e2
        cases e2
    subst hD
    have hr : (Builtin.append_ #[t, t] o.type #[v, .slice none 0 cap]).run P W = .ok v W := by
      rcases hown.2 with ⟨rfl, _⟩ | ⟨g, cp, cur, rfl, _, _, hc, _⟩
      · simp [Builtin.append_, run_underlying ht, sizeOf, typeInfo, hi0, Builtin.lenOf, Builtin.firstCells]
      · simp [Builtin.append_, run_underlying ht, sizeOf, typeInfo, hi0, Builtin.lenOf, run_firstCells_none, storeCells, hc]
    refine wpList_plain hgd fun K hK => ?_
    unfold Oper.wp execOp
    simp only [ho, resolve, invoke, builtin, Sem.run_bind, Sem.run_pure, Result.andThen_ok, List.map_toArray, List.map_cons, List.map_nil, hs, hx, List.length_nil, hr]
    exact hK _ _ (h v W (by simpa using hown) (Kep.refl _ _))
/-- As wpList_appAll, at a step of a region that draws its order. -/
theorem step_appAll {α : Type} (f : α → List Value) (n : Nat) (hf : ∀ x, (f x).length = n) (h1 : ∀ x, ∀ u ∈ f x, u.oneCell' = true) {P : Program} {ops : Array Oper} {o : Oper} {a : Act} {K : Act → World → Prop} {Q : Exit → Act → World → Prop} {E : Prop} (hgd : o.guard = none) (s x : Operand) (t : TypeId)
    (ho : o.op = .call { callee := .builtin .append, args := #[s, x], argTypes := #[t, t] }) (e : TypeId) (z : Value) (bytes : Nat) (ht : P.underlying t = some (.slice e))
    (hi : (P.info? e).map (fun i => (i.zero, i.size, i.bytes)) = some (some z, n, bytes)) (hzs : z.cells.size = n) (hn : 0 < n)
    (B : Nat) (W : World) (v vx : Value) (L D : List α) (hs : a.eval s = v) (hown : W.ownsRow B e n v L.length (L.flatMap f)) (hx : a.eval x = vx) (hq : Sq f n W vx D) (hl : L.length + D.length ≤ maxLen) (hby : (L.length + D.length) * bytes ≤ 140737488355328) (hB : B ≤ W.heap.size)
    (h : ∀ v' w', w'.ownsRow B e n v' (L ++ D).length ((L ++ D).flatMap f) → Kep B W w' → K (a.put o.dst v') w') : if Region.wanted o (yielded ops a.tmps) = true then Oper.wp P o a W K Q else E := by
  have hw : Region.wanted o (yielded ops a.tmps) = true := by simp [Region.wanted, hgd]
  rw [if_pos hw]
  obtain ⟨i0, hi0, hz0, hz1, hz2⟩ := info_parts hi
  obtain ⟨base, cap, rfl⟩ := hq.shape
  cases base with
  | some ad =>
    refine wp_append_own _ s x t ho B e i0 z n bytes ht hi0 hz0 hz1 hz2 hzs hn v L.length (L.flatMap f) hs hown ad D.length cap (D.flatMap f) hx (cat_len hf D) (hq.cells hf) (fun u hu => ?_) hl hby hB fun v' w' h2 h3 _ => h v' w' ?_ ?_
    · obtain ⟨y, _, hy⟩ := List.mem_flatMap.1 hu
      exact h1 y u hy
    · simpa using h2
    · exact (Kep.refl B W).row h3 hB (fun k q => (hown.lt k q).1)
  | none =>
    have hD : D = [] := by
      cases D with
      | nil => rfl
      | cons y D =>
        obtain ⟨_, _, e0, hc⟩ := hq
        injection e0 with e1
        obtain ⟨g, off, e2, _⟩ := hc 0 y rfl
        rw [← e1] at e2
        cases e2
    subst hD
    have hr : (Builtin.append_ #[t, t] o.type #[v, .slice none 0 cap]).run P W = .ok v W := by
      rcases hown.2 with ⟨rfl, _⟩ | ⟨g, cp, cur, rfl, _, _, hc, _⟩
      · simp [Builtin.append_, run_underlying ht, sizeOf, typeInfo, hi0, Builtin.lenOf, Builtin.firstCells]
      · simp [Builtin.append_, run_underlying ht, sizeOf, typeInfo, hi0, Builtin.lenOf, run_firstCells_none, storeCells, hc]
    unfold Oper.wp execOp
    simp only [ho, resolve, invoke, builtin, Sem.run_bind, Sem.run_pure, Result.andThen_ok, List.map_toArray, List.map_cons, List.map_nil, hs, hx, List.length_nil, hr]
    exact (h v W (by simpa using hown) (Kep.refl _ _))
theorem sq_zero {α : Type} {f : α → List Value} {n : Nat} {w : World} {L : List α} {b : Option Addr} {m c : Nat} (hl : L = []) (hm : m = 0) : Sq f n w (.slice b m c) L := by
  subst hl hm
  exact Sq.nil
/-- A list without its first k elements. -/
theorem sq_drop {α : Type} {f : α → List Value} {n : Nat} {w : World} {L : List α} {g off len k c : Nat} (hl : L.length = len) (hc : ∀ (k : Nat) (x : α), L[k]? = some x → ∃ g' off', (some ⟨g, off, none⟩ : Option Addr) = some ⟨g', off', none⟩ ∧ ∀ (i : Nat) (u : Value), (f x)[i]? = some u → w.cell? ⟨g', off' + k * n + i, none⟩ = some u) :
    Sq f n w (.slice (some ⟨g, off + k * n, none⟩) (len - k) c) (L.drop k) := by
  refine ⟨_, c, by rw [List.length_drop, hl], fun j x hx => ⟨g, off + k * n, rfl, fun i u hu => ?_⟩⟩
  rw [List.getElem?_drop] at hx
  obtain ⟨g', off', e, hi⟩ := hc (k + j) x hx
  injection e with e
  injection e with e1 e2
  subst e1 e2
  have := hi i u hu
  rw [Nat.add_mul, ← Nat.add_assoc] at this
  exact this
/-- As wpList_app, with what becomes of every block but the list's own. -/
theorem wpList_app2 {α : Type} (f : α → List Value) (n : Nat) (hf : ∀ x, (f x).length = n) (h1 : ∀ x, ∀ u ∈ f x, u.oneCell' = true) {P : Program} {ops : Array Oper} {rest : List Oper} {o : Oper} {a : Act} {Q : Exit → Act → World → Prop} (hgd : o.guard = none) (s x : Operand) (t : TypeId)
    (ho : o.op = .call { callee := .builtin .append, args := #[s, x], argTypes := #[t, t] }) (e : TypeId) (z : Value) (bytes : Nat) (ht : P.underlying t = some (.slice e))
    (hi : (P.info? e).map (fun i => (i.zero, i.size, i.bytes)) = some (some z, n, bytes)) (hzs : z.cells.size = n) (hn : 0 < n)
    (B : Nat) (W : World) (v : Value) (L : List α) (y : α) (hs : a.eval s = v) (hown : W.ownsRow B e n v L.length (L.flatMap f)) (b : Nat) (hb : b = W.heap.size) (hx : a.eval x = .slice (some ⟨b, 0, none⟩) 1 1)
    (cs : Array Value) (hcs : cs.toList = f y) (hl : L.length + 1 ≤ maxLen) (hby : (L.length + 1) * bytes ≤ 140737488355328) (hB : B ≤ W.heap.size)
    (h : ∀ v' w', w'.ownsRow B e n v' (L ++ [y]).length ((L ++ [y]).flatMap f) → Kep B W w' → (W.alloc (.cells cs e)).grownBy w' v.ownBlock → wpList P ops Q rest (a.put o.dst v') w') : wpList P ops Q (o :: rest) a (W.alloc (.cells cs e)) := by
  subst hb
  obtain ⟨i0, hi0, hz0, hz1, hz2⟩ := info_parts hi
  refine wpList_append_own _ hgd s x t ho B e i0 z n bytes ht hi0 hz0 hz1 hz2 hzs hn v L.length (L.flatMap f) hs (hown.alloc _) ⟨_, 0, none⟩ 1 1 (f y) hx (by rw [hf]; omega) (fun j u hu => ?_) (h1 y) hl hby (by simp; omega) fun v' w' h2 h3 _ => h v' w' ?_ ?_ h3
  · have q : ((⟨W.heap.size, 0, none⟩ : Addr).add j) = ⟨W.heap.size, j, none⟩ := by simp [Addr.add]; exact Eq.symm
    rw [q, World.cell?_alloc_at _ _ _ _ rfl]
    rw [← hcs] at hu
    simpa using hu
  · simpa using h2
  · exact ((Kep.refl B W).alloc hB _).row h3 (by simp; omega) (fun k q => (hown.lt k q).1)
/-- Lists of elements of different types lie apart. -/
theorem own_apart {w : World} {b b' s s' n n' : Nat} {e e' : TypeId} {v v' : Value} {xs xs' : List Value} (h : w.ownsRow b e s v n xs) (k : w.ownsRow b' e' s' v' n' xs') (hne : e ≠ e') : v.ownBlock = none ∨ v.ownBlock ≠ v'.ownBlock := by
  rcases h.2 with ⟨rfl, _⟩ | ⟨g, cap, cur, rfl, _, hg, _⟩
  · exact .inl rfl
  · refine .inr fun q => ?_
    rcases k.2 with ⟨rfl, _⟩ | ⟨g', cap', cur', rfl, _, hg', _⟩
    · simp [Value.ownBlock] at q
    · simp [Value.ownBlock] at q
      subst q
      rw [hg] at hg'
      injection hg' with hg'
      injection hg' with _ e1 _
      exact hne e1
/-- A list of lists: each is a slice. -/
abbrev Sl := Option Addr × Nat × Nat
def sv (s : Sl) : List Value := [.slice s.1 s.2.1 s.2.2]
theorem sv_len (s : Sl) : (sv s).length = 1 := rfl
theorem sv_one (s : Sl) : ∀ u ∈ sv s, u.oneCell' = true := by
  intro u hu
  simp only [sv, List.mem_cons, List.not_mem_nil, or_false] at hu
  subst hu
  rfl
theorem own_slice {w : World} {B : Nat} {t : TypeId} {size n : Nat} {v : Value} {xs : List Value} (h : w.ownsRow B t size v n xs) : ∃ s : Sl, v = .slice s.1 s.2.1 s.2.2 ∧ s.2.1 = n := by
  rcases h.2 with ⟨rfl, rfl⟩ | ⟨g, cap, cur, rfl, _⟩
  · exact ⟨(none, 0, 0), rfl, rfl⟩
  · exact ⟨(_, _, _), rfl, rfl⟩
theorem sq_drop1 {α : Type} {f : α → List Value} {w : World} {L : List α} {g off len k c : Nat} (hl : L.length = len) (hc : ∀ (k : Nat) (x : α), L[k]? = some x → ∃ g' off', (some ⟨g, off, none⟩ : Option Addr) = some ⟨g', off', none⟩ ∧ ∀ (i : Nat) (u : Value), (f x)[i]? = some u → w.cell? ⟨g', off' + k * 1 + i, none⟩ = some u) :
    Sq f 1 w (.slice (some ⟨g, off + k, none⟩) (len - k) c) (L.drop k) := by
  have := sq_drop (k := k) (c := c) hl hc
  rw [Nat.mul_one] at this
  exact this
end Go.Proofs.Ytllkokfaodpfiaa
