import Derived.Test.YtaknmlohnifcdaaGreatDoorJ00MBits
import Derived.WalkKit
import Derived.Laws.AppendOwn
import Derived.Deep.AppendLies
import Derived.Below
import Derived.Deep.RegionHeld3
import Derived.OpenShut
import Derived.LoopN
import Derived.Deep.QuietTactic
import Derived.BigQuiet
import Derived.Deep.DeepCutAuto
set_option maxHeartbeats 8000000
set_option maxRecDepth 100000
namespace Go.Proofs.YtaknmlohnifcdaaGreatDoor
open Go.RowKit Go.Lib
theorem sT {P : Program} {ops : Array Oper} {Q : Exit → Act → World → Prop} {md : Region.Mode} {S : World → Prop} (i : Nat) {oi : Oper} {v : Value} {fuel : Nat} {listed : Array Bool} {a : Act} {w : World} (hS : S w)
 (h : wpAnyH P md ops Q S fuel (listed.setIfInBounds i true) (a.put oi.dst v) w) (hi : ops[i]? = some oi := by (simp only [List.getElem?_toArray, List.getElem?_cons_succ, List.getElem?_cons_zero]; rfl))
 (hv : ∀ w, S w → (execOp a.eval oi).run P w = .ok (.value v) w := by (intro w hSw; (try dsimp only at hSw); go_simp; (try with_reducible rfl)))
 (hw : Region.wanted oi (yielded ops a.tmps) = true := by rfl) (hs : Region.noSelect ops = true := by kernel_rfl) (hf : Region.free md ops listed i = true := by kernel_rfl) (hr : (Region.ready md ops listed).contains i = true := by kernel_rfl)
 (hQ : ∀ c a w, Q (.panic c) (a.put oi.dst v) w → Q (.panic c) a w := by exact fun _ _ _ h => h) : wpAnyH P md ops Q S (fuel + 1) listed a w :=
 wpAnyH_take hi hs hf hr hQ (Or.inl ⟨hw, hv⟩) hS h
theorem sN {P : Program} {ops : Array Oper} {Q : Exit → Act → World → Prop} {md : Region.Mode} {S : World → Prop} (i : Nat) {oi : Oper} {v : Value} {fuel : Nat} {listed : Array Bool} {a a' : Act} {w : World} (hS : S w)
 (h : wpAnyH P md ops Q S fuel (listed.setIfInBounds i true) a' w) (hi : ops[i]? = some oi := by (simp only [List.getElem?_toArray, List.getElem?_cons_succ, List.getElem?_cons_zero]; rfl))
 (hv : ∀ w, S w → (execOp a.eval oi).run P w = .ok (.value v) w := by (intro w hSw; (try dsimp only at hSw); go_simp; (try with_reducible rfl)))
 (ha : a.put oi.dst v = a' := by ((try simp only [Act.put, List.setIfInBounds_toArray, List.set_cons_zero, List.set_cons_succ]); rfl))
 (hw : Region.wanted oi (yielded ops a.tmps) = true := by rfl) (hs : Region.noSelect ops = true := by kernel_rfl) (hf : Region.free md ops listed i = true := by kernel_rfl) (hr : (Region.ready md ops listed).contains i = true := by kernel_rfl)
 (hQ : ∀ c a w, Q (.panic c) (a.put oi.dst v) w → Q (.panic c) a w := by exact fun _ _ _ h => h) : wpAnyH P md ops Q S (fuel + 1) listed a w :=
 wpAnyH_take hi hs hf hr hQ (Or.inl ⟨hw, hv⟩) hS (by rw [ha]; exact h)
theorem sU {P : Program} {ops : Array Oper} {Q : Exit → Act → World → Prop} {md : Region.Mode} {S : World → Prop} (i : Nat) {oi : Oper} {fuel : Nat} {listed : Array Bool} {a : Act} {w : World} (hS : S w)
 (h : wpAnyH P md ops Q S fuel (listed.setIfInBounds i true) (a.put oi.dst undef) w) (hi : ops[i]? = some oi := by (simp only [List.getElem?_toArray, List.getElem?_cons_succ, List.getElem?_cons_zero]; rfl))
 (hw : Region.wanted oi (yielded ops a.tmps) = false := by rfl) (hs : Region.noSelect ops = true := by kernel_rfl) (hf : Region.free md ops listed i = true := by kernel_rfl) (hr : (Region.ready md ops listed).contains i = true := by kernel_rfl)
 (hQ : ∀ c a w, Q (.panic c) (a.put oi.dst undef) w → Q (.panic c) a w := by exact fun _ _ _ h => h) : wpAnyH P md ops Q S (fuel + 1) listed a w :=
 wpAnyH_take hi hs hf hr hQ (Or.inr ⟨hw, rfl⟩) hS h
theorem sM {P : Program} {ops : Array Oper} {Q : Exit → Act → World → Prop} {md : Region.Mode} {S : World → Prop} (i : Nat) {oi : Oper} {fuel : Nat} {listed : Array Bool} {a a' : Act} {w : World} (hS : S w)
 (h : wpAnyH P md ops Q S fuel (listed.setIfInBounds i true) a' w) (hi : ops[i]? = some oi := by (simp only [List.getElem?_toArray, List.getElem?_cons_succ, List.getElem?_cons_zero]; rfl))
 (ha : a.put oi.dst undef = a' := by ((try simp only [Act.put, List.setIfInBounds_toArray, List.set_cons_zero, List.set_cons_succ]); rfl))
 (hw : Region.wanted oi (yielded ops a.tmps) = false := by rfl) (hs : Region.noSelect ops = true := by kernel_rfl) (hf : Region.free md ops listed i = true := by kernel_rfl) (hr : (Region.ready md ops listed).contains i = true := by kernel_rfl)
 (hQ : ∀ c a w, Q (.panic c) (a.put oi.dst undef) w → Q (.panic c) a w := by exact fun _ _ _ h => h) : wpAnyH P md ops Q S (fuel + 1) listed a w :=
 wpAnyH_take hi hs hf hr hQ (Or.inr ⟨hw, rfl⟩) hS (by rw [ha]; exact h)
theorem sC {P : Program} {ops : Array Oper} {Q : Exit → Act → World → Prop} {md : Region.Mode} {S : World → Prop} (i : Nat) {o : Oper} {fuel : Nat} {listed : Array Bool} {a : Act} {w : World}
 (h : ∀ K' : Act → World → Prop, Shut (∀ a w, S w → (S w → wpAnyH P md ops Q S fuel (listed.setIfInBounds i true) a w) → K' a w) → if Region.wanted o (yielded ops a.tmps) = true then Oper.wp P o a w K' Q else K' (a.put o.dst undef) w)
 (ho : ops[i]? = some o := by (simp only [List.getElem?_toArray, List.getElem?_cons_succ, List.getElem?_cons_zero]; rfl)) (hr : Region.ready md ops listed = [i] := by kernel_rfl) : wpAnyH P md ops Q S (fuel + 1) listed a w :=
 wpAnyH_ready hr (by simp) (AllReadyH.cons ho h AllReadyH.nil)
theorem sE {P : Program} {ops : Array Oper} {Q : Act → World → Prop} {N : Exit → Act → World → Prop} {md : Region.Mode} {S : World → Prop} {listed : Array Bool} {a : Act} {w : World} {fuel : Nat} (h : Q a w) (hn : Q a w → N .normal a w := by exact fun h => NoPanic.normal h) (hr : Region.ready md ops listed = [] := by kernel_rfl) : wpAnyH P md ops N S fuel listed a w := wpAnyH_done hr (hn h) _
theorem rtk {P : Program} {ops : Array Oper} {Q : Exit → Act → World → Prop} {md : Region.Mode} {S : World → Prop} (i : Nat) {oi : Oper} {v : Value} {fuel : Nat} {listed : Array Bool} {a : Act} {w : World} (hi : ops[i]? = some oi)
 (hv : ∀ w, S w → (execOp a.eval oi).run P w = .ok (.value v) w) (hS : S w) (h : wpAnyH P md ops Q S fuel (listed.setIfInBounds i true) (a.put oi.dst v) w)
 (hw : Region.wanted oi (yielded ops a.tmps) = true := by rfl) (hs : Region.noSelect ops = true := by kernel_rfl) (hf : Region.free md ops listed i = true := by kernel_rfl) (hr : (Region.ready md ops listed).contains i = true := by kernel_rfl)
 (hQ : ∀ c a w, Q (.panic c) (a.put oi.dst v) w → Q (.panic c) a w := by exact fun _ _ _ h => h) : wpAnyH P md ops Q S (fuel + 1) listed a w :=
 wpAnyH_take hi hs hf hr hQ (Or.inl ⟨hw, hv⟩) hS h
theorem rtu {P : Program} {ops : Array Oper} {Q : Exit → Act → World → Prop} {md : Region.Mode} {S : World → Prop} (i : Nat) {oi : Oper} {fuel : Nat} {listed : Array Bool} {a : Act} {w : World} (hi : ops[i]? = some oi)
 (hS : S w) (h : wpAnyH P md ops Q S fuel (listed.setIfInBounds i true) (a.put oi.dst undef) w)
 (hw : Region.wanted oi (yielded ops a.tmps) = false := by rfl) (hs : Region.noSelect ops = true := by kernel_rfl) (hf : Region.free md ops listed i = true := by kernel_rfl) (hr : (Region.ready md ops listed).contains i = true := by kernel_rfl)
 (hQ : ∀ c a w, Q (.panic c) (a.put oi.dst undef) w → Q (.panic c) a w := by exact fun _ _ _ h => h) : wpAnyH P md ops Q S (fuel + 1) listed a w :=
 wpAnyH_take hi hs hf hr hQ (Or.inr ⟨hw, rfl⟩) hS h
def Sq {α : Type} (f : α → List Value) (n : Nat) (w : World) (v : Value) (L : List α) : Prop :=
 ∃ base cap, v = .slice base L.length cap ∧ ∀ (k : Nat) (x : α), L[k]? = some x → ∃ g off, base = some ⟨g, off, none⟩ ∧ ∀ (i : Nat) (u : Value), (f x)[i]? = some u → w.cell? ⟨g, off + k * n + i, none⟩ = some u
theorem Sq.kep {α : Type} {f : α → List Value} {n : Nat} {w w' : World} {v : Value} {L : List α} (h : Sq f n w v L) (g : Kep w.heap.size w w') : Sq f n w' v L := by
 obtain ⟨base, cap, rfl, hc⟩ := h
 refine ⟨base, cap, rfl, fun k x hx => ?_⟩
 obtain ⟨b, off, e, hi⟩ := hc k x hx
 exact ⟨b, off, e, fun i u hu => g.all (hi i u hu)⟩
theorem Sq.nil {α : Type} {f : α → List Value} {n : Nat} {w : World} {base : Option Addr} {cap : Nat} : Sq f n w (.slice base 0 cap) ([] : List α) := ⟨base, cap, rfl, fun k x hx => by simp at hx⟩
theorem Sq.shape {α : Type} {f : α → List Value} {n : Nat} {w : World} {v : Value} {L : List α} (h : Sq f n w v L) : ∃ base cap, v = .slice base L.length cap := by
 obtain ⟨b, c, e, _⟩ := h
 exact ⟨b, c, e⟩
theorem cat_get {α : Type} {f : α → List Value} {n : Nat} (hf : ∀ x, (f x).length = n) : ∀ (s : List α) (k : Nat) (b : α), s[k]? = some b → ∀ i, i < n → (s.flatMap f)[k * n + i]? = (f b)[i]?
 | [], _, _, h, _, _ => by simp at h
 | x :: s, 0, b, h, i, hi => by
   simp at h
   subst h
   simp only [List.flatMap_cons]
   rw [List.getElem?_append_left (by rw [hf]; omega)]
   simp
 | x :: s, k + 1, b, h, i, hi => by
   have e := cat_get hf s k b (by simpa using h) i hi
   simp only [List.flatMap_cons]
   rw [List.getElem?_append_right (by rw [hf, Nat.succ_mul]; omega), hf, show (k + 1) * n + i - n = k * n + i by rw [Nat.succ_mul]; omega]
   exact e
theorem cat_len {α : Type} {f : α → List Value} {n : Nat} (hf : ∀ x, (f x).length = n) : ∀ (s : List α), (s.flatMap f).length = s.length * n
 | [] => by simp
 | x :: s => by rw [List.flatMap_cons, List.length_append, hf, cat_len hf s, List.length_cons, Nat.succ_mul]; omega
theorem own_sq {α : Type} {f : α → List Value} {n : Nat} (hf : ∀ x, (f x).length = n) {w : World} {B : Nat} {t : TypeId} {v : Value} {s : List α} (h : w.ownsRow B t n v s.length (s.flatMap f)) : Sq f n w v s := by
 obtain ⟨_, ⟨rfl, h0⟩ | ⟨g, cap, cur, rfl, _, hg, hn, _, hs, hc⟩⟩ := h
 ·have e := List.length_eq_zero_iff.1 h0
  subst e
  exact Sq.nil
 ·refine ⟨_, cap, rfl, fun k b hb => ⟨g, 0, rfl, fun i u hu => ?_⟩⟩
  have hk : k < s.length := (List.getElem?_eq_some_iff.1 hb).1
  have hi : i < n := by have := (List.getElem?_eq_some_iff.1 hu).1; rwa [hf] at this
  rw [← cat_get hf s k b hb i hi, ← hc] at hu
  have hlt : k * n + i < s.length * n := by
   have := Nat.mul_le_mul_right n (Nat.succ_le_of_lt hk)
   rw [Nat.succ_mul] at this
   omega
  rw [List.getElem?_take_of_lt hlt] at hu
  simp only [World.cell?, hg, Nat.zero_add]
  simpa using hu
theorem own_blk {w : World} {B : Nat} {t : TypeId} {size n : Nat} {v : Value} {xs : List Value} (h : w.ownsRow B t size v n xs) : ∀ g, v.ownBlock = some g → B ≤ g ∧ g < w.heap.size := h.lt
theorem wpList_app {α : Type} (f : α → List Value) (n : Nat) (hf : ∀ x, (f x).length = n) (h1 : ∀ x, ∀ u ∈ f x, u.oneCell' = true) {P : Program} {ops : Array Oper} {rest : List Oper} {o : Oper} {a : Act} {Q : Exit → Act → World → Prop} (hgd : o.guard = none) (s x : Operand) (t : TypeId)
 (ho : o.op = .call { callee := .builtin .append, args := #[s, x], argTypes := #[t, t] }) (e : TypeId) (z : Value) (bytes : Nat) (ht : P.underlying t = some (.slice e))
 (hi : (P.info? e).map (fun i => (i.zero, i.size, i.bytes)) = some (some z, n, bytes)) (hzs : z.cells.size = n) (hn : 0 < n)
 (B : Nat) (W : World) (v : Value) (L : List α) (y : α) (hs : a.eval s = v) (hown : W.ownsRow B e n v L.length (L.flatMap f)) (b : Nat) (hb : b = W.heap.size) (hx : a.eval x = .slice (some ⟨b, 0, none⟩) 1 1)
 (cs : Array Value) (hcs : cs.toList = f y) (hl : L.length + 1 ≤ maxLen) (hby : (L.length + 1) * bytes ≤ 140737488355328) (hB : B ≤ W.heap.size)
 (h : ∀ v' w', w'.ownsRow B e n v' (L ++ [y]).length ((L ++ [y]).flatMap f) → Kep B W w' → wpList P ops Q rest (a.put o.dst v') w') : wpList P ops Q (o :: rest) a (W.alloc (.cells cs e)) := by
 subst hb
 obtain ⟨i0, hi0, hz0, hz1, hz2⟩ := info_parts hi
 refine wpList_append_own _ hgd s x t ho B e i0 z n bytes ht hi0 hz0 hz1 hz2 hzs hn v L.length (L.flatMap f) hs (hown.alloc _) ⟨_, 0, none⟩ 1 1 (f y) hx (by rw [hf]; omega) (fun j u hu => ?_) (h1 y) hl hby (by simp; omega) fun v' w' h2 h3 _ => h v' w' ?_ ?_
 ·have q : ((⟨W.heap.size, 0, none⟩ : Addr).add j) = ⟨W.heap.size, j, none⟩ := by simp [Addr.add]; exact Eq.symm
  rw [q, World.cell?_alloc_at _ _ _ _ rfl]
  rw [← hcs] at hu
  simpa using hu
 ·simpa using h2
 ·exact ((Kep.refl B W).alloc hB _).row h3 (by simp; omega) (fun k q => (hown.lt k q).1)
theorem step_app {α : Type} (f : α → List Value) (n : Nat) (hf : ∀ x, (f x).length = n) (h1 : ∀ x, ∀ u ∈ f x, u.oneCell' = true) {P : Program} {ops : Array Oper} {o : Oper} {a : Act} {K : Act → World → Prop} {Q : Exit → Act → World → Prop} {E : Prop} (hgd : o.guard = none) (s x : Operand) (t : TypeId)
 (ho : o.op = .call { callee := .builtin .append, args := #[s, x], argTypes := #[t, t] }) (e : TypeId) (z : Value) (bytes : Nat) (ht : P.underlying t = some (.slice e))
 (hi : (P.info? e).map (fun i => (i.zero, i.size, i.bytes)) = some (some z, n, bytes)) (hzs : z.cells.size = n) (hn : 0 < n)
 (B : Nat) (W : World) (v : Value) (L : List α) (y : α) (hs : a.eval s = v) (hown : W.ownsRow B e n v L.length (L.flatMap f)) (b : Nat) (hb : b = W.heap.size) (hx : a.eval x = .slice (some ⟨b, 0, none⟩) 1 1)
 (cs : Array Value) (hcs : cs.toList = f y) (hl : L.length + 1 ≤ maxLen) (hby : (L.length + 1) * bytes ≤ 140737488355328) (hB : B ≤ W.heap.size)
 (h : ∀ v' w', w'.ownsRow B e n v' (L ++ [y]).length ((L ++ [y]).flatMap f) → Kep B (W.alloc (.cells cs e)) w' → K (a.put o.dst v') w') : if Region.wanted o (yielded ops a.tmps) = true then Oper.wp P o a (W.alloc (.cells cs e)) K Q else E := by
 subst hb
 obtain ⟨i0, hi0, hz0, hz1, hz2⟩ := info_parts hi
 refine step_append_lies _ hgd s x t ho B e i0 z n bytes ht hi0 hz0 hz1 hz2 hzs hn v L.length (L.flatMap f) hs (hown.alloc _) ⟨_, 0, none⟩ 1 1 (f y) hx (by rw [hf]; omega) (fun j u hu => ?_) (h1 y) (by decide) hl hby (by simp; omega) _ rfl fun g cap w' h2 h3 _ _ => h _ w' ?_ ?_
 ·have q : ((⟨W.heap.size, 0, none⟩ : Addr).add j) = ⟨W.heap.size, j, none⟩ := by simp [Addr.add]; exact Eq.symm
  rw [q, World.cell?_alloc_at _ _ _ _ rfl]
  rw [← hcs] at hu
  simpa using hu
 ·simpa using h2
 ·exact (Kep.refl B _).row h3 (by simp; omega) (fun k q => (hown.lt k q).1)
theorem own_drewN {w : World} {base : Nat} {e : TypeId} {size : Nat} {v : Value} {m n : Nat} {xs : List Value} (h : w.ownsRow base e size v n xs) : (w.drewN m).ownsRow base e size v n xs := h
theorem kep_drewN {B : Nat} {a w : World} (h : Kep B a w) (m : Nat) : Kep B a (w.drewN m) := ⟨h.os, h.output, h.size, h.block⟩
theorem own_kep {w w' : World} {B B' : Nat} {e : TypeId} {size n : Nat} {v : Value} {xs : List Value} (h : w.ownsRow B e size v n xs) (k : Kep B' w w') (hb : w.heap.size ≤ B') : w'.ownsRow B e size v n xs := by
 refine ⟨h.1, ?_⟩
 rcases h.2 with hn | ⟨g, cap, cur, rfl, hg, hgg, rest⟩
 ·exact .inl hn
 ·refine .inr ⟨g, cap, cur, rfl, hg, ?_, rest⟩
  have hlt : g < w.heap.size := (Array.getElem?_eq_some_iff.1 hgg).1
  rw [k.block g (by omega)]
  exact hgg
theorem kep_next {a b c : World} (h : Kep a.heap.size a b) (k : Kep b.heap.size b c) : Kep a.heap.size a c := h.trans (k.mono h.size)
theorem kep_more {a b : World} (h : Kep a.heap.size a b) (o : Obj) : Kep a.heap.size a (b.alloc o) := h.alloc h.size o
theorem kep_drew {a b : World} (h : Kep a.heap.size a b) : Kep a.heap.size a b.drew := h.drew
theorem wrap_ib {n q : Int} (h : wrap32 n = q) : IntKind.i32.wrap n = q := by rw [← h, IntKind.wrap_i32]; unfold wrap32; rfl
theorem kep_calls {P : Program} {f : Nat} {args : Array Value} {V : Ending} {w : World} (h : Calls P f args w fun e w' => e = V ∧ Grown w w') : Calls P f args w fun e w' => e = V ∧ Kep w.heap.size w w' := h.mono fun _ _ h => ⟨h.1, Kep.of_grown h.2⟩
theorem sq_new {α : Type} {f : α → List Value} {n : Nat} (hf : ∀ x, (f x).length = n) (W : World) (L : List α) (cs : Array Value) (hcs : cs.toList = L.flatMap f) (t : TypeId) (b : Nat) (hb : b = W.heap.size) (m cap : Nat) (hm : m = L.length) : Sq f n (W.alloc (.cells cs t)) (.slice (some ⟨b, 0, none⟩) m cap) L := by
 subst hb hm
 refine ⟨_, cap, rfl, fun k x hx => ⟨_, 0, rfl, fun i u hu => ?_⟩⟩
 have hi : i < n := by have := (List.getElem?_eq_some_iff.1 hu).1; rwa [hf] at this
 rw [← cat_get hf L k x hx i hi, ← hcs] at hu
 rw [World.cell?_alloc_at _ _ _ _ rfl, Nat.zero_add]
 simpa using hu
abbrev Bel (w w' : World) : Prop := Below w.heap.size w w'
theorem bel_next {a b c : World} (h : Bel a b) (k : Bel b c) : Bel a c := h.trans (k.mono h.size)
theorem bel_more {a b : World} (h : Bel a b) (o : Obj) : Bel a (b.alloc o) := h.alloc h.size o
theorem bel_drew {a b : World} (h : Bel a b) : Bel a b.drew := h.drew
theorem bel_set {a b : World} (h : Bel a b) {p : Addr} (hp : a.heap.size ≤ p.block) (u : Value) : Bel a (b.setCell p u) := h.setCell hp u
theorem bel_all {w w' : World} (h : Bel w w') {a : Addr} {v : Value} (hv : w.cell? a = some v) : w'.cell? a = some v := (h.cell (p := a) (World.block_lt_of_cell? _ _ hv)).trans hv
theorem bel_grown {w w' : World} (h : Bel w w') : w.grownBy w' none := ⟨h.os, h.tape, h.output, h.size, fun k hk _ => h.block k hk⟩
theorem bel_calls {P : Program} {f : Nat} {args : Array Value} {V : Ending} {w : World} (h : Calls P f args w fun e w' => e = V ∧ Bel w w') : Calls P f args w fun e w' => e = V ∧ Kep w.heap.size w w' := h.mono fun _ _ h => ⟨h.1, Kep.of_below h.2⟩
theorem bel_frozen {W w1 : World} (g : Bel W w1) {b o : Nat} (h : W.frozen? ⟨b, o, none⟩ = false) (hb : b < W.heap.size) : w1.frozen? ⟨b, o, none⟩ = false := (World.frozen?_of_block (w := W) (g.block b hb)).trans h
theorem some_lt {w : World} {a : Addr} (h : (w.cell? a).isSome = true) : a.block < w.heap.size := by
 obtain ⟨u, hu⟩ := Option.isSome_iff_exists.1 h
 exact World.block_lt_of_cell? _ _ hu
theorem kep_some {w w' : World} (g : Kep w.heap.size w w') {a : Addr} (h : (w.cell? a).isSome = true) : (w'.cell? a).isSome = true := by rw [g.cell (some_lt h)]; exact h
theorem kep_froz {w w' : World} (g : Kep w.heap.size w w') {a : Addr} (s : (w.cell? a).isSome = true) (h : w.frozen? a = false) : w'.frozen? a = false := by rw [g.frozen (some_lt s)]; exact h
theorem bel_some {w w' : World} (g : Bel w w') {a : Addr} (h : (w.cell? a).isSome = true) : (w'.cell? a).isSome = true := kep_some (Kep.of_below g) h
theorem bel_froz {w w' : World} (g : Bel w w') {a : Addr} (s : (w.cell? a).isSome = true) (h : w.frozen? a = false) : w'.frozen? a = false := kep_froz (Kep.of_below g) s h
theorem kep_set {a b : World} (h : Kep a.heap.size a b) {p : Addr} (hp : a.heap.size ≤ p.block) (u : Value) : Kep a.heap.size a (b.setCell p u) := h.setCell hp u
theorem sset_some {W : World} (a b : Addr) (v : Value) (h : (W.cell? b).isSome = true) : ((W.setCell a v).cell? b).isSome = true := by
 by_cases c : a = b
 ·subst c; rw [World.cell?_setCell_same' _ _ _ h]; rfl
 ·rw [World.cell?_setCell_other (h := c)]; exact h
theorem sset_far {W : World} {p a : Addr} {v u : Value} (h : W.cell? a = some u) (c : p.block ≠ a.block) : (W.setCell p v).cell? a = some u := by
 rw [World.cell?_setCell_far _ _ _ _ c]; exact h
theorem sset_froz {W : World} {p a : Addr} {v : Value} (h : W.frozen? a = false) : (W.setCell p v).frozen? a = false := by
 rw [World.frozen?_setCell]; exact h
def Rmy (v : Value) : Prop := ∀ b n c, v = .slice b n c → n ≤ c
theorem own_rmy {w : World} {B : Nat} {t : TypeId} {size n : Nat} {v : Value} {xs : List Value} (h : w.ownsRow B t size v n xs) : Rmy v := fun b m c e => by
 rcases h.2 with ⟨rfl, _⟩ | ⟨g, cap, cur, rfl, _, _, hc, _⟩
 ·injection e with _ e1 e2
  omega
 ·injection e with _ e1 e2
  omega
theorem add_off (g off j : Nat) : (⟨g, off, none⟩ : Addr).add j = ⟨g, off + j, none⟩ := by unfold Addr.add; split <;> simp_all
theorem Sq.cells {α : Type} {f : α → List Value} {n : Nat} (hf : ∀ x, (f x).length = n) {w : World} {a : Addr} {m cap : Nat} {D : List α} (h : Sq f n w (.slice (some a) m cap) D) : ∀ (j : Nat) (u : Value), (D.flatMap f)[j]? = some u → w.cell? (a.add j) = some u := fun j u hu => by
 obtain ⟨base, c, e, hc⟩ := h
 injection e with e1 e2 e3
 have hj : j < (D.flatMap f).length := (List.getElem?_eq_some_iff.1 hu).1
 rw [cat_len hf] at hj
 have hn : 0 < n := by
  rcases Nat.eq_zero_or_pos n with rfl | h
  ·simp at hj
  ·exact h
 have hk : j / n < D.length := (Nat.div_lt_iff_lt_mul hn).2 hj
 obtain ⟨g, off, e4, hi⟩ := hc (j / n) _ (List.getElem?_eq_getElem hk)
 rw [e4] at e1
 injection e1 with e1
 have hd : j / n * n + j % n = j := by rw [Nat.mul_comm]; exact Nat.div_add_mod j n
 have q := cat_get hf D (j / n) _ (List.getElem?_eq_getElem hk) (j % n) (Nat.mod_lt _ hn)
 rw [hd, hu] at q
 have r := hi (j % n) u q.symm
 rw [e1, add_off]
 rw [show off + j / n * n + j % n = off + j by omega] at r
 exact r
theorem wpList_appAll {α : Type} (f : α → List Value) (n : Nat) (hf : ∀ x, (f x).length = n) (h1 : ∀ x, ∀ u ∈ f x, u.oneCell' = true) {P : Program} {ops : Array Oper} {rest : List Oper} {o : Oper} {a : Act} {Q : Exit → Act → World → Prop} (hgd : o.guard = none) (s x : Operand) (t : TypeId)
 (ho : o.op = .call { callee := .builtin .append, args := #[s, x], argTypes := #[t, t] }) (e : TypeId) (z : Value) (bytes : Nat) (ht : P.underlying t = some (.slice e))
 (hi : (P.info? e).map (fun i => (i.zero, i.size, i.bytes)) = some (some z, n, bytes)) (hzs : z.cells.size = n) (hn : 0 < n)
 (B : Nat) (W : World) (v vx : Value) (L D : List α) (hs : a.eval s = v) (hown : W.ownsRow B e n v L.length (L.flatMap f)) (hx : a.eval x = vx) (hq : Sq f n W vx D) (hl : L.length + D.length ≤ maxLen) (hby : (L.length + D.length) * bytes ≤ 140737488355328) (hB : B ≤ W.heap.size)
 (h : ∀ v' w', w'.ownsRow B e n v' (L ++ D).length ((L ++ D).flatMap f) → Kep B W w' → wpList P ops Q rest (a.put o.dst v') w') : wpList P ops Q (o :: rest) a W := by
 obtain ⟨i0, hi0, hz0, hz1, hz2⟩ := info_parts hi
 obtain ⟨base, cap, rfl⟩ := hq.shape
 cases base with
 | some ad =>
   refine wpList_append_own _ hgd s x t ho B e i0 z n bytes ht hi0 hz0 hz1 hz2 hzs hn v L.length (L.flatMap f) hs hown ad D.length cap (D.flatMap f) hx (cat_len hf D) (hq.cells hf) (fun u hu => ?_) hl hby hB fun v' w' h2 h3 _ => h v' w' ?_ ?_
   ·obtain ⟨y, _, hy⟩ := List.mem_flatMap.1 hu
    exact h1 y u hy
   ·simpa using h2
   ·exact (Kep.refl B W).row h3 hB (fun k q => (hown.lt k q).1)
 | none =>
   have hD : D = [] := by
    cases D with
    | nil => rfl
    | cons y D =>
      obtain ⟨_, _, e0, hc⟩ := hq
      injection e0 with e1
      obtain ⟨g, off, e2, _⟩ := hc 0 y rfl
      rw [← e1] at e2
      cases e2
   subst hD
   have hr : (Builtin.append_ #[t, t] o.type #[v, .slice none 0 cap]).run P W = .ok v W := by
    rcases hown.2 with ⟨rfl, _⟩ | ⟨g, cp, cur, rfl, _, _, hc, _⟩
    ·simp [Builtin.append_, run_underlying ht, sizeOf, typeInfo, hi0, Builtin.lenOf, Builtin.firstCells]
    ·simp [Builtin.append_, run_underlying ht, sizeOf, typeInfo, hi0, Builtin.lenOf, run_firstCells_none, storeCells, hc]
   refine wpList_plain hgd fun K hK => ?_
   unfold Oper.wp execOp
   simp only [ho, resolve, invoke, builtin, Sem.run_bind, Sem.run_pure, Result.andThen_ok, List.map_toArray, List.map_cons, List.map_nil, hs, hx, List.length_nil, hr]
   exact hK _ _ (h v W (by simpa using hown) (Kep.refl _ _))
theorem step_appAll {α : Type} (f : α → List Value) (n : Nat) (hf : ∀ x, (f x).length = n) (h1 : ∀ x, ∀ u ∈ f x, u.oneCell' = true) {P : Program} {ops : Array Oper} {o : Oper} {a : Act} {K : Act → World → Prop} {Q : Exit → Act → World → Prop} {E : Prop} (hgd : o.guard = none) (s x : Operand) (t : TypeId)
 (ho : o.op = .call { callee := .builtin .append, args := #[s, x], argTypes := #[t, t] }) (e : TypeId) (z : Value) (bytes : Nat) (ht : P.underlying t = some (.slice e))
 (hi : (P.info? e).map (fun i => (i.zero, i.size, i.bytes)) = some (some z, n, bytes)) (hzs : z.cells.size = n) (hn : 0 < n)
 (B : Nat) (W : World) (v vx : Value) (L D : List α) (hs : a.eval s = v) (hown : W.ownsRow B e n v L.length (L.flatMap f)) (hx : a.eval x = vx) (hq : Sq f n W vx D) (hl : L.length + D.length ≤ maxLen) (hby : (L.length + D.length) * bytes ≤ 140737488355328) (hB : B ≤ W.heap.size)
 (h : ∀ v' w', w'.ownsRow B e n v' (L ++ D).length ((L ++ D).flatMap f) → Kep B W w' → K (a.put o.dst v') w') : if Region.wanted o (yielded ops a.tmps) = true then Oper.wp P o a W K Q else E := by
 have hw : Region.wanted o (yielded ops a.tmps) = true := by simp [Region.wanted, hgd]
 rw [if_pos hw]
 obtain ⟨i0, hi0, hz0, hz1, hz2⟩ := info_parts hi
 obtain ⟨base, cap, rfl⟩ := hq.shape
 cases base with
 | some ad =>
   refine wp_append_own _ s x t ho B e i0 z n bytes ht hi0 hz0 hz1 hz2 hzs hn v L.length (L.flatMap f) hs hown ad D.length cap (D.flatMap f) hx (cat_len hf D) (hq.cells hf) (fun u hu => ?_) hl hby hB fun v' w' h2 h3 _ => h v' w' ?_ ?_
   ·obtain ⟨y, _, hy⟩ := List.mem_flatMap.1 hu
    exact h1 y u hy
   ·simpa using h2
   ·exact (Kep.refl B W).row h3 hB (fun k q => (hown.lt k q).1)
 | none =>
   have hD : D = [] := by
    cases D with
    | nil => rfl
    | cons y D =>
      obtain ⟨_, _, e0, hc⟩ := hq
      injection e0 with e1
      obtain ⟨g, off, e2, _⟩ := hc 0 y rfl
      rw [← e1] at e2
      cases e2
   subst hD
   have hr : (Builtin.append_ #[t, t] o.type #[v, .slice none 0 cap]).run P W = .ok v W := by
    rcases hown.2 with ⟨rfl, _⟩ | ⟨g, cp, cur, rfl, _, _, hc, _⟩
    ·simp [Builtin.append_, run_underlying ht, sizeOf, typeInfo, hi0, Builtin.lenOf, Builtin.firstCells]
    ·simp [Builtin.append_, run_underlying ht, sizeOf, typeInfo, hi0, Builtin.lenOf, run_firstCells_none, storeCells, hc]
   unfold Oper.wp execOp
   simp only [ho, resolve, invoke, builtin, Sem.run_bind, Sem.run_pure, Result.andThen_ok, List.map_toArray, List.map_cons, List.map_nil, hs, hx, List.length_nil, hr]
   exact (h v W (by simpa using hown) (Kep.refl _ _))
theorem sq_zero {α : Type} {f : α → List Value} {n : Nat} {w : World} {L : List α} {b : Option Addr} {m c : Nat} (hl : L = []) (hm : m = 0) : Sq f n w (.slice b m c) L := by
 subst hl hm
 exact Sq.nil
theorem sq_drop {α : Type} {f : α → List Value} {n : Nat} {w : World} {L : List α} {g off len k c : Nat} (hl : L.length = len) (hc : ∀ (k : Nat) (x : α), L[k]? = some x → ∃ g' off', (some ⟨g, off, none⟩ : Option Addr) = some ⟨g', off', none⟩ ∧ ∀ (i : Nat) (u : Value), (f x)[i]? = some u → w.cell? ⟨g', off' + k * n + i, none⟩ = some u) :
 Sq f n w (.slice (some ⟨g, off + k * n, none⟩) (len - k) c) (L.drop k) := by
 refine ⟨_, c, by rw [List.length_drop, hl], fun j x hx => ⟨g, off + k * n, rfl, fun i u hu => ?_⟩⟩
 rw [List.getElem?_drop] at hx
 obtain ⟨g', off', e, hi⟩ := hc (k + j) x hx
 injection e with e
 injection e with e1 e2
 subst e1 e2
 have := hi i u hu
 rw [Nat.add_mul, ← Nat.add_assoc] at this
 exact this
theorem wpList_app2 {α : Type} (f : α → List Value) (n : Nat) (hf : ∀ x, (f x).length = n) (h1 : ∀ x, ∀ u ∈ f x, u.oneCell' = true) {P : Program} {ops : Array Oper} {rest : List Oper} {o : Oper} {a : Act} {Q : Exit → Act → World → Prop} (hgd : o.guard = none) (s x : Operand) (t : TypeId)
 (ho : o.op = .call { callee := .builtin .append, args := #[s, x], argTypes := #[t, t] }) (e : TypeId) (z : Value) (bytes : Nat) (ht : P.underlying t = some (.slice e))
 (hi : (P.info? e).map (fun i => (i.zero, i.size, i.bytes)) = some (some z, n, bytes)) (hzs : z.cells.size = n) (hn : 0 < n)
 (B : Nat) (W : World) (v : Value) (L : List α) (y : α) (hs : a.eval s = v) (hown : W.ownsRow B e n v L.length (L.flatMap f)) (b : Nat) (hb : b = W.heap.size) (hx : a.eval x = .slice (some ⟨b, 0, none⟩) 1 1)
 (cs : Array Value) (hcs : cs.toList = f y) (hl : L.length + 1 ≤ maxLen) (hby : (L.length + 1) * bytes ≤ 140737488355328) (hB : B ≤ W.heap.size)
 (h : ∀ v' w', w'.ownsRow B e n v' (L ++ [y]).length ((L ++ [y]).flatMap f) → Kep B W w' → (W.alloc (.cells cs e)).grownBy w' v.ownBlock → wpList P ops Q rest (a.put o.dst v') w') : wpList P ops Q (o :: rest) a (W.alloc (.cells cs e)) := by
 subst hb
 obtain ⟨i0, hi0, hz0, hz1, hz2⟩ := info_parts hi
 refine wpList_append_own _ hgd s x t ho B e i0 z n bytes ht hi0 hz0 hz1 hz2 hzs hn v L.length (L.flatMap f) hs (hown.alloc _) ⟨_, 0, none⟩ 1 1 (f y) hx (by rw [hf]; omega) (fun j u hu => ?_) (h1 y) hl hby (by simp; omega) fun v' w' h2 h3 _ => h v' w' ?_ ?_ h3
 ·have q : ((⟨W.heap.size, 0, none⟩ : Addr).add j) = ⟨W.heap.size, j, none⟩ := by simp [Addr.add]; exact Eq.symm
  rw [q, World.cell?_alloc_at _ _ _ _ rfl]
  rw [← hcs] at hu
  simpa using hu
 ·simpa using h2
 ·exact ((Kep.refl B W).alloc hB _).row h3 (by simp; omega) (fun k q => (hown.lt k q).1)
theorem own_apart {w : World} {b b' s s' n n' : Nat} {e e' : TypeId} {v v' : Value} {xs xs' : List Value} (h : w.ownsRow b e s v n xs) (k : w.ownsRow b' e' s' v' n' xs') (hne : e ≠ e') : v.ownBlock = none ∨ v.ownBlock ≠ v'.ownBlock := by
 rcases h.2 with ⟨rfl, _⟩ | ⟨g, cap, cur, rfl, _, hg, _⟩
 ·exact .inl rfl
 ·refine .inr fun q => ?_
  rcases k.2 with ⟨rfl, _⟩ | ⟨g', cap', cur', rfl, _, hg', _⟩
  ·simp [Value.ownBlock] at q
  ·simp [Value.ownBlock] at q
   subst q
   rw [hg] at hg'
   injection hg' with hg'
   injection hg' with _ e1 _
   exact hne e1
abbrev Sl := Option Addr × Nat × Nat
def sv (s : Sl) : List Value := [.slice s.1 s.2.1 s.2.2]
theorem sv_len (s : Sl) : (sv s).length = 1 := rfl
theorem sv_one (s : Sl) : ∀ u ∈ sv s, u.oneCell' = true := by
 intro u hu
 simp only [sv, List.mem_cons, List.not_mem_nil, or_false] at hu
 subst hu
 rfl
theorem own_slice {w : World} {B : Nat} {t : TypeId} {size n : Nat} {v : Value} {xs : List Value} (h : w.ownsRow B t size v n xs) : ∃ s : Sl, v = .slice s.1 s.2.1 s.2.2 ∧ s.2.1 = n := by
 rcases h.2 with ⟨rfl, rfl⟩ | ⟨g, cap, cur, rfl, _⟩
 ·exact ⟨(none, 0, 0), rfl, rfl⟩
 ·exact ⟨(_, _, _), rfl, rfl⟩
theorem sq_drop1 {α : Type} {f : α → List Value} {w : World} {L : List α} {g off len k c : Nat} (hl : L.length = len) (hc : ∀ (k : Nat) (x : α), L[k]? = some x → ∃ g' off', (some ⟨g, off, none⟩ : Option Addr) = some ⟨g', off', none⟩ ∧ ∀ (i : Nat) (u : Value), (f x)[i]? = some u → w.cell? ⟨g', off' + k * 1 + i, none⟩ = some u) :
 Sq f 1 w (.slice (some ⟨g, off + k, none⟩) (len - k) c) (L.drop k) := by
 have := sq_drop (k := k) (c := c) hl hc
 rw [Nat.mul_one] at this
 exact this
end Go.Proofs.YtaknmlohnifcdaaGreatDoor
section
namespace Go.Proofs.YtaknmlohnifcdaaGreatDoor
open Go.RowKit

structure Fac (w : World) : Prop where
 x : w.cell? ⟨0, 0, none⟩ = some (.int .u32 73856093)
 y : w.cell? ⟨0, 1, none⟩ = some (.int .u32 19349663)
theorem Fac.kep {w w' : World} (h : Fac w) (g : Kep w.heap.size w w') : Fac w' := ⟨Kep.all g h.x, Kep.all g h.y⟩
theorem Fac.lt {w : World} (h : Fac w) : 0 < w.heap.size := World.block_lt_of_cell? _ _ h.x
theorem Fac.drew {w : World} (h : Fac w) : Fac w.drew := ⟨by rw [World.cell?_drew]; exact h.x, by rw [World.cell?_drew]; exact h.y⟩
theorem Fac.alloc {w : World} (h : Fac w) (o : Obj) : Fac (w.alloc o) := h.kep (Kep.alloc (Kep.refl _ _) (Nat.le_refl _) o)
end Go.Proofs.YtaknmlohnifcdaaGreatDoor
end
namespace Go.Proofs.YtaknmlohnifcdaaGreatDoor
open Go.RowKit Go.Lib
structure ZC (w : World) (b : Nat) (vs : List Value) : Prop where
 at_ : ∀ (i : Nat) (u : Value), vs[i]? = some u → w.cell? ⟨b, i, none⟩ = some u
 frz : ∀ i, w.frozen? ⟨b, i, none⟩ = false
 lt : b < w.heap.size
theorem ZC.kep {w w' : World} {b : Nat} {vs : List Value} (h : ZC w b vs) (g : Kep w.heap.size w w') : ZC w' b vs :=
 ⟨fun i u hu => g.all (h.at_ i u hu), fun i => (g.frozen (p := ⟨b, i, none⟩) h.lt).trans (h.frz i), Nat.lt_of_lt_of_le h.lt g.size⟩
theorem ZC.drew {w : World} {b : Nat} {vs : List Value} (h : ZC w b vs) : ZC w.drew b vs := h.kep (kep_drew (Kep.refl _ _))
theorem ZC.more {w : World} {b : Nat} {vs : List Value} (h : ZC w b vs) (o : Obj) : ZC (w.alloc o) b vs := h.kep (kep_more (Kep.refl _ _) o)
theorem zc_new (w : World) (l : List Value) (t : TypeId) : ZC (w.alloc (.cells ⟨l⟩ t)) w.heap.size l := by
 refine ⟨fun i u hu => ?_, fun i => ?_, by simp⟩
 ·rw [World.cell?_alloc_at _ _ _ _ rfl]
  simpa using hu
 ·exact World.frozen?_alloc_at _ _ _ _ rfl
def setAll (w : World) (b : Nat) : Nat → List Value → World
 | _, [] => w
 | o, v :: l => setAll (w.setCell ⟨b, o, none⟩ v) b (o + 1) l
theorem setAll_size (b : Nat) : ∀ (l : List Value) (o : Nat) (w : World), (setAll w b o l).heap.size = w.heap.size
 | [], _, _ => rfl
 | v :: l, o, w => by
   unfold setAll
   rw [setAll_size b l, World.size_setCell]
theorem setAll_froz (b : Nat) : ∀ (l : List Value) (o : Nat) (w : World) (a : Addr), (setAll w b o l).frozen? a = w.frozen? a
 | [], _, _, _ => rfl
 | v :: l, o, w, a => by
   unfold setAll
   rw [setAll_froz b l, World.frozen?_setCell]
theorem setAll_far (b : Nat) : ∀ (l : List Value) (o : Nat) (w : World) {c i : Nat} {u : Value}, c ≠ b → w.cell? ⟨c, i, none⟩ = some u → (setAll w b o l).cell? ⟨c, i, none⟩ = some u
 | [], _, _, _, _, _, _, h => h
 | v :: l, o, w, c, i, u, hc, h => by
   unfold setAll
   exact setAll_far b l (o + 1) _ hc (sset_far h (fun e => hc e.symm))
theorem setAll_low (b : Nat) : ∀ (l : List Value) (o : Nat) (w : World) {i : Nat} {u : Value}, i < o → w.cell? ⟨b, i, none⟩ = some u → (setAll w b o l).cell? ⟨b, i, none⟩ = some u
 | [], _, _, _, _, _, h => h
 | v :: l, o, w, i, u, hi, h => by
   unfold setAll
   refine setAll_low b l (o + 1) _ (by omega) ?_
   rw [World.cell?_setCell_other (h := by intro e; injection e with _ e2; omega)]
   exact h
theorem setAll_at (b : Nat) : ∀ (l : List Value) (o : Nat) (w : World), (∀ j, j < l.length → (w.cell? ⟨b, o + j, none⟩).isSome = true) → ∀ (i : Nat) (u : Value), l[i]? = some u → (setAll w b o l).cell? ⟨b, o + i, none⟩ = some u
 | [], _, _, _, _, _, h => by simp at h
 | v :: l, o, w, hs, 0, u, h => by
   simp at h
   subst h
   unfold setAll
   refine setAll_low b l (o + 1) _ (by omega) ?_
   exact World.cell?_setCell_same' _ _ _ (hs 0 (by simp))
 | v :: l, o, w, hs, i + 1, u, h => by
   unfold setAll
   have := setAll_at b l (o + 1) (w.setCell ⟨b, o, none⟩ v) (fun j hj => sset_some _ _ _ (by
    have := hs (j + 1) (by simp; omega)
    rw [show o + 1 + j = o + (j + 1) by omega]
    exact this)) i u (by simpa using h)
   rw [show o + (i + 1) = o + 1 + i by omega]
   exact this
theorem ZC.set {w : World} {b : Nat} {vs : List Value} (h : ZC w b vs) (us : List Value) (hl : us.length ≤ vs.length) : ZC (setAll w b 0 us) b us := by
 refine ⟨fun i u hu => ?_, fun i => by rw [setAll_froz]; exact h.frz i, by rw [setAll_size]; exact h.lt⟩
 have := setAll_at b us 0 w (fun j hj => by
  rw [Nat.zero_add]
  have hj2 : j < vs.length := by omega
  rw [h.at_ j _ (List.getElem?_eq_getElem hj2)]
  rfl) i u hu
 rw [Nat.zero_add] at this
 exact this
theorem kep_setAll {a : World} {b : Nat} (hb : a.heap.size ≤ b) : ∀ (l : List Value) (o : Nat) {w : World}, Kep a.heap.size a w → Kep a.heap.size a (setAll w b o l)
 | [], _, _, h => h
 | v :: l, o, w, h => by
   unfold setAll
   exact kep_setAll hb l (o + 1) (kep_set h hb v)
theorem ZC.i {w : World} {b : Nat} {vs : List Value} (h : ZC w b vs) {i : Nat} {u : Value} (hu : vs[i]? = some u) : w.cell? ⟨b, i, none⟩ = some u := h.at_ i u hu
theorem zc_new' (w : World) (l : List Value) (t : TypeId) {b : Nat} (h : b = w.heap.size) : ZC (w.alloc (.cells ⟨l⟩ t)) b l := by subst h; exact zc_new w l t
theorem ZC.far {w : World} {b c : Nat} {vs : List Value} (h : ZC w c vs) (hc : c ≠ b) (l : List Value) : ZC (setAll w b 0 l) c vs :=
 ⟨fun i u hu => setAll_far b l 0 w hc (h.at_ i u hu), fun i => by rw [setAll_froz]; exact h.frz i, by rw [setAll_size]; exact h.lt⟩
abbrev ZA (w : World) (b : Nat) (vs : List Value) : Prop := ∀ i : Nat, i < vs.length → w.cell? ⟨b, i, none⟩ = vs[i]?
theorem za_kep {w w' : World} {b : Nat} {vs : List Value} (h : ZA w b vs) (g : Kep w.heap.size w w') : ZA w' b vs := fun i hi => by
 have e := h i hi
 rw [List.getElem?_eq_getElem hi] at e ⊢
 exact g.all e
theorem za_lt {w : World} {b : Nat} {v : Value} {vs : List Value} (h : ZA w b (v :: vs)) : b < w.heap.size := World.block_lt_of_cell? w ⟨b, 0, none⟩ ((h 0 (by simp)).trans rfl)
theorem za_at {w : World} {b : Nat} {vs : List Value} (h : ZA w b vs) {i : Nat} {u : Value} (hu : vs[i]? = some u) : w.cell? ⟨b, i, none⟩ = some u := (h i (List.getElem?_eq_some_iff.1 hu).1).trans hu
theorem za_of {w : World} {b : Nat} {vs : List Value} (h : ZC w b vs) : ZA w b vs := fun i hi => by
 rw [List.getElem?_eq_getElem hi]
 exact h.at_ i _ (List.getElem?_eq_getElem hi)
theorem za_new (w : World) (l : List Value) (t : TypeId) {b : Nat} (h : b = w.heap.size) : ZA (w.alloc (.cells ⟨l⟩ t)) b l := za_of (zc_new' w l t h)
theorem za_more {w : World} {b : Nat} {vs : List Value} (h : ZA w b vs) (o : Obj) : ZA (w.alloc o) b vs := za_kep h (kep_more (Kep.refl _ _) o)
abbrev ZE (w : World) (g o : Nat) (vs : List Value) : Prop := w.cell? ⟨g, o, none⟩ = vs[0]? ∧ ∀ i : Nat, i < vs.length → w.cell? ⟨g, o + i, none⟩ = vs[i]?
theorem ze_of {w : World} {g o : Nat} {vs : List Value} (h : ∀ i : Nat, i < vs.length → w.cell? ⟨g, o + i, none⟩ = vs[i]?) (hl : 0 < vs.length := by exact Nat.zero_lt_succ _) : ZE w g o vs := ⟨h 0 hl, h⟩
theorem ze_kep {w w' : World} {g o : Nat} {vs : List Value} (h : ZE w g o vs) (k : Kep w.heap.size w w') (hl : 0 < vs.length := by exact Nat.zero_lt_succ _) : ZE w' g o vs := ze_of (fun i hi => by
 have e := h.2 i hi
 rw [List.getElem?_eq_getElem hi] at e ⊢
 exact k.all e) hl
theorem zK {w w' : World} {b : Nat} {vs : List Value} (g : Kep w.heap.size w w') (h : ZA w b vs := by repeat (first | exact za_new _ _ _ (by first | rfl | simp) | refine za_more ?_ _ | refine za_kep ?_ (kep_drew (Kep.refl _ _)))) : ZA w' b vs := za_kep h g
theorem zI {w : World} {b : Nat} {vs : List Value} (h : ZA w b vs) (i : Nat) {u : Value} (hu : vs[i]? = some u := by rfl) : w.cell? ⟨b, i, none⟩ = some u := za_at h hu
structure FrO (a b : Nat) (w w' : World) : Prop where
 os : w'.os = w.os
 output : w'.output = w.output
 size : w.heap.size ≤ w'.heap.size
 block : ∀ k, k < w.heap.size → k ≠ a → k ≠ b → w'.heap[k]? = w.heap[k]?
theorem FrO.refl (a b : Nat) (w : World) : FrO a b w w := ⟨rfl, rfl, Nat.le_refl _, fun _ _ _ _ => rfl⟩
theorem FrO.trans {a b : Nat} {w w' w'' : World} (h : FrO a b w w') (k : FrO a b w' w'') : FrO a b w w'' :=
 ⟨k.os.trans h.os, k.output.trans h.output, Nat.le_trans h.size k.size, fun i hi n m => (k.block i (Nat.lt_of_lt_of_le hi h.size) n m).trans (h.block i hi n m)⟩
theorem FrO.of_kep {a b : Nat} {w w' : World} (g : Kep w.heap.size w w') : FrO a b w w' := ⟨g.os, g.output, g.size, fun k hk _ _ => g.block k hk⟩
theorem FrO.kep {a b : Nat} {w w' w'' : World} (h : FrO a b w w') (g : Kep w'.heap.size w' w'') : FrO a b w w'' := h.trans (.of_kep g)
theorem FrO.set1 {a b o : Nat} {w w' : World} (h : FrO a b w w') (u : Value) : FrO a b w (w'.setCell ⟨a, o, none⟩ u) :=
 ⟨h.os, h.output, by rw [World.size_setCell]; exact h.size, fun i hi n m => by rw [Below.heap_setCell _ _ _ i (fun e => n e)]; exact h.block i hi n m⟩
theorem FrO.set2 {a b o : Nat} {w w' : World} (h : FrO a b w w') (u : Value) : FrO a b w (w'.setCell ⟨b, o, none⟩ u) :=
 ⟨h.os, h.output, by rw [World.size_setCell]; exact h.size, fun i hi n m => by rw [Below.heap_setCell _ _ _ i (fun e => m e)]; exact h.block i hi n m⟩
theorem FrO.cell {a b : Nat} {w w' : World} (h : FrO a b w w') {c o : Nat} {v : Value} (h1 : c ≠ a) (h2 : c ≠ b) (hc : w.cell? ⟨c, o, none⟩ = some v) : w'.cell? ⟨c, o, none⟩ = some v :=
 (World.cell?_of_block (w := w) (h.block c (World.block_lt_of_cell? _ _ hc) h1 h2)).trans hc
theorem FrO.zc {a b c : Nat} {w w' : World} {vs : List Value} (h : FrO a b w w') (h1 : c ≠ a) (h2 : c ≠ b) (z : ZC w c vs) : ZC w' c vs :=
 ⟨fun i u hu => (World.cell?_of_block (w := w) (h.block c z.lt h1 h2)).trans (z.at_ i u hu), fun i => (World.frozen?_of_block (w := w) (h.block c z.lt h1 h2)).trans (z.frz i), Nat.lt_of_lt_of_le z.lt h.size⟩
theorem FrO.down {a b B : Nat} {w w' : World} (h : FrO a b w w') (h1 : B ≤ a) (h2 : B ≤ b) (h3 : B ≤ w.heap.size) : Kep B w w' := ⟨h.os, h.output, h.size, fun k hk => h.block k (by omega) (by omega) (by omega)⟩
theorem ZC.put {w : World} {b : Nat} {vs : List Value} (h : ZC w b vs) {i : Nat} (u : Value) (hi : i < vs.length) : ZC (w.setCell ⟨b, i, none⟩ u) b (vs.set i u) := by
 refine ⟨fun j v hj => ?_, fun j => by rw [World.frozen?_setCell]; exact h.frz j, by rw [World.size_setCell]; exact h.lt⟩
 by_cases c : j = i
 ·subst c
  rw [List.getElem?_set_self hi] at hj
  injection hj with hj
  subst hj
  exact World.cell?_setCell_same' _ _ _ (by rw [h.at_ j _ (List.getElem?_eq_getElem hi)]; rfl)
 ·rw [List.getElem?_set_ne (fun e => c e.symm)] at hj
  rw [World.cell?_setCell_other (h := by intro e; injection e with _ e2; omega)]
  exact h.at_ j v hj
theorem ZC.far1 {w : World} {b c i : Nat} {vs : List Value} (h : ZC w c vs) (hc : c ≠ b) (u : Value) : ZC (w.setCell ⟨b, i, none⟩ u) c vs :=
 ⟨fun j v hj => sset_far (h.at_ j v hj) (fun e => hc e.symm), fun j => by rw [World.frozen?_setCell]; exact h.frz j, by rw [World.size_setCell]; exact h.lt⟩
def ivs (xs : List Int) : List Value := xs.map fun n => .int .i64 n
theorem ivs_len (xs : List Int) : (ivs xs).length = xs.length := List.length_map ..
theorem ivs_at {xs : List Int} {i : Nat} {a : Int} (h : xs[i]? = some a) : (ivs xs)[i]? = some (.int .i64 a) := by
 unfold ivs
 rw [List.getElem?_map, h]
 rfl
theorem ivs_set (xs : List Int) (i : Nat) (a : Int) : ivs (xs.set i a) = (ivs xs).set i (.int .i64 a) := by
 unfold ivs
 rw [List.map_set]
theorem shift_out (a b n : Int) (hn : n < 0 ∨ 63 < n) (w : World) :
 Calls Tryz.prog 80 #[.int .i64 a, .int .i64 b, .int .i64 n] w fun e w' => e = .returned (.tuple #[.int .i64 0, .int .i64 1]) ∧ Grown w w' := by
 by_cases h : n < 0
 ·clear hn
  go_enter Tryz.func80, Tryz.ntmps80
  go_wp2
  go_ret2
  exact ⟨rfl, Grown.refl _⟩
 ·have h1 : 63 < n := by omega
  clear hn
  go_enter Tryz.func80, Tryz.ntmps80
  go_wp2
  go_ret2
  exact ⟨rfl, Grown.refl _⟩

theorem two_pow (k : Nat) (hk : k ≤ 63) : 0 < (2 : Int) ^ k ∧ (2 : Int) ^ k ≤ 9223372036854775808 := by
 have c : ((2 : Int) ^ k) = ((2 ^ k : Nat) : Int) := by rw [Int.natCast_pow]; rfl
 have h1 : 2 ^ k ≤ 2 ^ 63 := Nat.pow_le_pow_right (by omega) hk
 have h2 := Nat.two_pow_pos k
 rw [c]
 omega

theorem shift_in (a b n : Int) (ha : I64 a) (hb : I64 b) (hn : 0 ≤ n) (hn1 : n ≤ 63) (w : World) :
 Calls Tryz.prog 80 #[.int .i64 a, .int .i64 b, .int .i64 n] w fun e w' => e = .returned (.tuple #[.int .i64 (rv (a * b / 2 ^ n.toNat)), .int .i64 (re (a * b / 2 ^ n.toNat))]) ∧ Grown w w' := by
 have a0 := ha.mag0; have b0 := hb.mag0
 obtain ⟨D, hD⟩ : ∃ D : Int, D = 2 ^ n.toNat := ⟨_, rfl⟩
 have hp := two_pow n.toNat (by omega)
 rw [← hD] at hp ⊢
 have hw : IntKind.u64.wrap (2 ^ n.toNat) = D := by rw [← hD, IntKind.wrap_u64]; omega
 rw [← qs_shift a b D hp.1]
 clear hD
 have e0 : ¬ n < 0 := by omega
 have e1 : ¬ 63 < n := by omega
 go_enter Tryz.func80, Tryz.ntmps80
 go_wp2
 go_region_held3 (fun _ => True) (trivial)
  (first
    | (go_at_call_of 104 (Value.int IntKind.i64 a); refine (mag_any a ha _).mono ?_; rintro e w' ⟨rfl, rfl⟩)
    | (go_at_call_of 104 (Value.int IntKind.i64 b); refine (mag_any b hb _).mono ?_; rintro e w' ⟨rfl, rfl⟩)
    | (go_at_call 103; refine (quot_any (mag a) (mag b) D _ a0.1 a0.2 b0.1 b0.2 hp.1 hp.2 _).mono ?_; rintro e w1 ⟨rfl, hg⟩))
 go_wp2
 go_ret2
 exact ⟨rfl, hg⟩

theorem mulshift_any (a b n : Int) (ha : I64 a) (hb : I64 b) (w : World) :
 Calls Tryz.prog 80 #[.int .i64 a, .int .i64 b, .int .i64 n] w fun e w' => e = .returned (.tuple #[.int .i64 (msv a b n), .int .i64 (mse a b n)]) ∧ Grown w w' := by
 by_cases h : n < 0 ∨ 63 < n
 ·have e1 : msv a b n = 0 := if_pos h
  have e2 : mse a b n = 1 := if_pos h
  rw [e1, e2]
  exact shift_out a b n h w
 ·have e1 : msv a b n = rv (a * b / 2 ^ n.toNat) := if_neg h
  have e2 : mse a b n = re (a * b / 2 ^ n.toNat) := if_neg h
  rw [e1, e2]
  exact shift_in a b n ha hb (by omega) (by omega) w
def Dg (x : Int) : Prop := 0 ≤ x ∧ x ≤ 65535

def Cut (m x m' : Int) : Prop := m.tmod 65536 = x ∧ m % 65536 = x ∧ m.tdiv 65536 = m' ∧ m / 65536 = m' ∧ IntKind.u64.wrap m' = m' ∧ 0 ≤ m ∧ 0 ≤ m'
theorem cut_of {m x m' : Int} (h0 : 0 ≤ m) (h1 : m < 18446744073709551616) (hx : x = m % 65536) (hm : m' = m / 65536) : Cut m x m' := by
 refine ⟨?_, hx.symm, ?_, hm.symm, ?_, h0, by omega⟩
 ·rw [Int.tmod_eq_emod_of_nonneg h0, hx]
 ·rw [Int.tdiv_eq_ediv_of_nonneg h0, hm]
 ·rw [IntKind.wrap_u64]; omega

theorem digits_walk (a A m x0 m1 x1 m2 x2 m3 x3 m4 : Int) (ha : (a < 0 ∧ IntKind.u64.wrap a = A ∧ IntKind.u64.wrap (-A) = m) ∨ (¬ a < 0 ∧ IntKind.u64.wrap a = m))
 (h0 : Cut m x0 m1) (h1 : Cut m1 x1 m2) (h2 : Cut m2 x2 m3) (h3 : Cut m3 x3 m4) (w : World) :
 Calls Tryz.prog 166 #[.int .i64 a] w fun e w' => e = .returned (.agg #[.int .u64 x0, .int .u64 x1, .int .u64 x2, .int .u64 x3, .int .u64 0, .int .u64 0, .int .u64 0, .int .u64 0]) ∧ w' = (w.alloc (.cells #[.int .u64 x0, .int .u64 x1, .int .u64 x2, .int .u64 x3, .int .u64 0, .int .u64 0, .int .u64 0, .int .u64 0] 204)).alloc (.cells #[.int .u64 x0, .int .u64 x1, .int .u64 x2, .int .u64 x3, .int .u64 0, .int .u64 0, .int .u64 0, .int .u64 0] 204) := by
 obtain ⟨p1, p2, p3, p4, p5, p6, p7⟩ := h0
 obtain ⟨q1, q2, q3, q4, q5, q6, q7⟩ := h1
 obtain ⟨r1, r2, r3, r4, r5, r6, r7⟩ := h2
 obtain ⟨s1, s2, s3, s4, s5, s6, s7⟩ := h3
 rcases ha with ⟨c, e1, e2⟩ | ⟨c, e1⟩
 all_goals
  go_enter Tryz.func166, Tryz.ntmps166
  go_wp2
  refine wp_loop_rounds 5 ?_
  rw [rounds_succ]; go_wp2
  rw [rounds_succ]; go_wp2
  rw [rounds_succ]; go_wp2
  rw [rounds_succ]; go_wp2
  rw [rounds_succ]; go_wp2
  exact bodyPost_ret (v := .agg #[.int .u64 x0, .int .u64 x1, .int .u64 x2, .int .u64 x3, .int .u64 0, .int .u64 0, .int .u64 0, .int .u64 0]) (by simp [results, Tryz.results166, go_sem]) rfl ⟨rfl, rfl⟩

abbrev Digs (a x0 x1 x2 x3 : Int) : Prop := ∀ w, Calls Tryz.prog 166 #[.int .i64 a] w fun e w' => e = .returned (.agg #[.int .u64 x0, .int .u64 x1, .int .u64 x2, .int .u64 x3, .int .u64 0, .int .u64 0, .int .u64 0, .int .u64 0]) ∧ w' = (w.alloc (.cells #[.int .u64 x0, .int .u64 x1, .int .u64 x2, .int .u64 x3, .int .u64 0, .int .u64 0, .int .u64 0, .int .u64 0] 204)).alloc (.cells #[.int .u64 x0, .int .u64 x1, .int .u64 x2, .int .u64 x3, .int .u64 0, .int .u64 0, .int .u64 0, .int .u64 0] 204)

theorem digits_any (a : Int) (ha : I64 a) : ∃ x0 x1 x2 x3, Dg x0 ∧ Dg x1 ∧ Dg x2 ∧ Dg x3 ∧ x0 + 65536 * x1 + 4294967296 * x2 + 281474976710656 * x3 = mag a ∧ Digs a x0 x1 x2 x3 := by
 have hm := ha.mag0
 obtain ⟨m, hM⟩ : ∃ m, m = mag a := ⟨_, rfl⟩
 rw [← hM] at hm ⊢
 obtain ⟨m1, h1⟩ : ∃ m1, m1 = m / 65536 := ⟨_, rfl⟩
 obtain ⟨m2, h2⟩ : ∃ m2, m2 = m1 / 65536 := ⟨_, rfl⟩
 obtain ⟨m3, h3⟩ : ∃ m3, m3 = m2 / 65536 := ⟨_, rfl⟩
 refine ⟨m % 65536, m1 % 65536, m2 % 65536, m3 % 65536, ⟨by omega, by omega⟩, ⟨by omega, by omega⟩, ⟨by omega, by omega⟩, ⟨by omega, by omega⟩, by omega, fun w => ?_⟩
 refine digits_walk a (IntKind.u64.wrap a) m _ m1 _ m2 _ m3 _ _ ?_ (cut_of (by omega) (by omega) rfl h1) (cut_of (by omega) (by omega) rfl h2) (cut_of (by omega) (by omega) rfl h3) (cut_of (by omega) (by omega) rfl rfl) w
 obtain ⟨i1, i2⟩ := ha
 unfold mag at hM
 by_cases c : a < 0
 ·rw [if_pos c] at hM
  left
  refine ⟨c, rfl, ?_⟩
  simp only [IntKind.wrap_u64]
  omega
 ·rw [if_neg c] at hM
  right
  refine ⟨c, ?_⟩
  rw [IntKind.wrap_u64]
  omega
theorem reflim_any (n l : Int) (h : I64 n) (h0 : 0 ≤ l) (h3 : l < 9223372036854775808) (w : World) :
 Calls Tryz.prog 43 #[.int .i64 n, .int .i64 l] w fun e w' => e = .returned (.int .i64 (lim n l)) ∧ w = w' := by
 obtain ⟨h1, h2⟩ := h
 by_cases c : l < n
 ·have e : lim n l = l := by unfold lim; omega
  rw [e]; clear e
  go_enter Tryz.func43, Tryz.ntmps43
  go_wp2
  go_ret
  exact ⟨rfl, rfl⟩
 ·by_cases c2 : n < -l
  ·have e : lim n l = -l := by unfold lim; omega
   rw [e]; clear e
   go_enter Tryz.func43, Tryz.ntmps43
   go_wp2
   go_ret
   exact ⟨rfl, rfl⟩
  ·have e : lim n l = n := by unfold lim; omega
   rw [e]; clear e
   go_enter Tryz.func43, Tryz.ntmps43
   go_wp2
   go_ret
   exact ⟨rfl, rfl⟩

theorem reffl_any (a b : Int) (ha : I64 a) (hb0 : 0 < b) (hb : b < 9223372036854775808) (w : World) :
 Calls Tryz.prog 45 #[.int .i64 a, .int .i64 b] w fun e w' => e = .returned (.int .i64 (a / b)) ∧ w = w' := by
 obtain ⟨h1, h2⟩ := ha
 have hbz : (b == 0) = false := by simp; omega
 have hd := Int.mul_tdiv_add_tmod a b
 have hl := Int.tmod_lt_of_pos a hb0
 have hg : -b < a.tmod b := Int.lt_tmod_of_pos a hb0
 have hn0 : 0 ≤ a → 0 ≤ a.tmod b := fun h => Int.tmod_nonneg b h
 have hn1 : a ≤ 0 → a.tmod b ≤ 0 := fun h => by
  have := Int.tmod_nonneg b (show 0 ≤ -a by omega)
  rw [Int.neg_tmod] at this; omega
 have hq0 : 0 ≤ a → 0 ≤ a.tdiv b := fun h => Int.tdiv_nonneg h (by omega)
 have hq1 : a ≤ 0 → a.tdiv b ≤ 0 := fun h => by
  have := Int.tdiv_nonneg (show 0 ≤ -a by omega) (show 0 ≤ b by omega)
  rw [Int.neg_tdiv] at this; omega
 obtain ⟨q, hq⟩ : ∃ q, q = a.tdiv b := ⟨_, rfl⟩
 obtain ⟨r, hr⟩ : ∃ r, r = a.tmod b := ⟨_, rfl⟩
 rw [← hq, ← hr] at hd
 rw [← hr] at hl hg hn0 hn1
 rw [← hq] at hq0 hq1
 have hbq : ∀ x : Int, 0 ≤ x → x ≤ b * x := fun x hx => by
  have := Int.mul_le_mul_of_nonneg_right (show 1 ≤ b by omega) hx
  omega
 have q0 : -9223372036854775808 ≤ q ∧ q < 9223372036854775808 := by
  by_cases c : 0 ≤ a
  ·have := hq0 c; have := hbq q this; have := hn0 c; omega
  ·have h := hq1 (by omega); have := hbq (-q) (by omega); rw [Int.mul_neg] at this; have := hn1 (by omega); omega
 have W1 : IntKind.i64.wrap (a.tdiv b) = q := by rw [← hq, IntKind.wrap_i64]; omega
 have W2 : IntKind.i64.wrap (a.tmod b) = r := by rw [← hr, IntKind.wrap_i64]; omega
 have W3 : wrap64 (a.tdiv b) = q := by rw [← hq]; unfold wrap64; omega
 have W4 : wrap64 (a.tmod b) = r := by rw [← hr]; unfold wrap64; omega
 have hq' := hq.symm; have hr' := hr.symm
 clear hq hr hbq hn0 hn1 hq0 hq1
 by_cases c : r < 0
 ·have e : a / b = q - 1 := by
   rw [Int.ediv_eq_iff_of_pos hb0, Int.sub_mul, Int.mul_comm q b]; omega
  have q2 : -9223372036854775808 ≤ q - 1 := by
   by_cases c2 : b = 1
   ·subst c2; omega
   ·have hbq2 : ∀ x : Int, 0 ≤ x → 2 * x ≤ b * x := fun x hx => Int.mul_le_mul_of_nonneg_right (show 2 ≤ b by omega) hx
    by_cases c3 : 0 ≤ q
    ·omega
    ·have := hbq2 (-q) (by omega); rw [Int.mul_neg b q] at this; omega
  rw [e]
  clear e hd
  go_enter Tryz.func45, Tryz.ntmps45
  go_wp2
  go_ret
  exact ⟨rfl, rfl⟩
 ·have e : a / b = q := by
   rw [Int.ediv_eq_iff_of_pos hb0, Int.mul_comm q b]; omega
  rw [e]
  clear e hd
  go_enter Tryz.func45, Tryz.ntmps45
  go_wp2
  go_ret
  exact ⟨rfl, rfl⟩
abbrev Lim2 (n l q : Int) : Prop := ∀ w, Calls Tryz.prog 77 #[.int .i64 n, .int .i64 l] w fun e' w' => e' = .returned (.tuple #[.int .i64 q, .bool (q != n)]) ∧ w = w'

theorem lim2 {n l q : Int} (hn : I64 n) (h0 : 0 ≤ l) (h1 : l < 9223372036854775808) (h : lim n l = q) : Lim2 n l q := fun w => by rw [← h]; exact limit_any n l hn h0 h1 w
def chk (r ax ay m o px py vx vy : Int) : Int :=
 if 4096 ≤ r ∧ r ≤ 4194304 then
  if (-4194304 ≤ ax ∧ ax ≤ 4194304) ∧ (-4194304 ≤ ay ∧ ay ≤ 4194304) then
   if 0 ≤ m ∧ m ≤ 1048576 then
    if 0 ≤ o ∧ o ≤ 65536 then
     if (-1073741824 ≤ px ∧ px ≤ 1073741824) ∧ (-1073741824 ≤ py ∧ py ≤ 1073741824) then
      if (-16777216 ≤ vx ∧ vx ≤ 16777216) ∧ (-16777216 ≤ vy ∧ vy ≤ 16777216) then 0 else 9
     else 8
    else 7
   else 6
  else 5
 else 4
abbrev RIn (n l : Int) (c : Bool) : Prop := ∀ w, Calls Tryz.prog 34 #[.int .i32 n, .int .i32 l] w fun e w' => e = .returned (.bool c) ∧ w = w'
abbrev Fst (k r ax ay m o px py vx vy x y : Int) : Prop := ∀ w, Calls Tryz.prog 84 #[.agg #[.int .u32 k, .int .i32 r, .int .i32 ax, .int .i32 ay, .int .i32 m, .int .i32 o, .int .i32 px, .int .i32 py, .int .i32 vx, .int .i32 vy]] w fun e w' => e = .returned (.agg #[.int .i32 x, .int .i32 y]) ∧ Grown w w'
abbrev Snd (k r ax ay m o px py vx vy x y : Int) : Prop := ∀ w, Calls Tryz.prog 85 #[.agg #[.int .u32 k, .int .i32 r, .int .i32 ax, .int .i32 ay, .int .i32 m, .int .i32 o, .int .i32 px, .int .i32 py, .int .i32 vx, .int .i32 vy]] w fun e w' => e = .returned (.agg #[.int .i32 x, .int .i32 y]) ∧ Grown w w'
abbrev Rck (k r ax ay m o px py vx vy c : Int) : Prop := ∀ w, Calls Tryz.prog 18 #[.agg #[.int .u32 k, .int .i32 r, .int .i32 ax, .int .i32 ay, .int .i32 m, .int .i32 o, .int .i32 px, .int .i32 py, .int .i32 vx, .int .i32 vy]] w fun e w' => e = .returned (.int .i64 c) ∧ Grown w w'

theorem rin {n l : Int} {c : Bool} (h1 : 0 ≤ l) (h2 : l < 2147483648) (hc : decide (-l ≤ n ∧ n ≤ l) = c) : RIn n l c := fun w => by
 have e1 : IntKind.i32.wrap (-l) = -l := by rw [IntKind.wrap_i32]; omega
 have e2 : wrap32 (-l) = -l := by unfold wrap32; omega
 by_cases g1 : -l ≤ n
 ·by_cases g2 : n ≤ l
  ·obtain rfl : true = c := by rw [← hc, decide_eq_true (And.intro g1 g2)]
   clear hc
   go_enter Tryz.func34, Tryz.ntmps34
   go_wp2
   go_ret
   exact ⟨rfl, rfl⟩
  ·obtain rfl : false = c := by rw [← hc, decide_eq_false (fun h => g2 h.2)]
   clear hc
   go_enter Tryz.func34, Tryz.ntmps34
   go_wp2
   go_ret
   exact ⟨rfl, rfl⟩
 ·obtain rfl : false = c := by rw [← hc, decide_eq_false (fun h => g1 h.1)]
  clear hc
  go_enter Tryz.func34, Tryz.ntmps34
  go_wp2
  go_ret
  exact ⟨rfl, rfl⟩
theorem fst (k r ax ay m o px py vx vy x y : Int) (hx : wrap32 (px - ax) = x) (hy : wrap32 (py - ay) = y) : Fst k r ax ay m o px py vx vy x y := fun w => by
 have e1 : IntKind.i32.wrap (px - ax) = x := by rw [← hx, IntKind.wrap_i32]; unfold wrap32; rfl
 have e2 : IntKind.i32.wrap (py - ay) = y := by rw [← hy, IntKind.wrap_i32]; unfold wrap32; rfl
 go_enter Tryz.func84, Tryz.ntmps84
 go_wp2
 exact bodyPost_ret (v := .agg #[.int .i32 x, .int .i32 y]) (by simp [results, Tryz.results84, go_sem]) rfl ⟨rfl, ((Grown.refl _).alloc _ _).alloc _ _⟩
theorem snd (k r ax ay m o px py vx vy x y : Int) (hx : wrap32 (px + ax) = x) (hy : wrap32 (py + ay) = y) : Snd k r ax ay m o px py vx vy x y := fun w => by
 have e1 : IntKind.i32.wrap (px + ax) = x := by rw [← hx, IntKind.wrap_i32]; unfold wrap32; rfl
 have e2 : IntKind.i32.wrap (py + ay) = y := by rw [← hy, IntKind.wrap_i32]; unfold wrap32; rfl
 go_enter Tryz.func85, Tryz.ntmps85
 go_wp2
 exact bodyPost_ret (v := .agg #[.int .i32 x, .int .i32 y]) (by simp [results, Tryz.results85, go_sem]) rfl ⟨rfl, ((Grown.refl _).alloc _ _).alloc _ _⟩

theorem ret_i64 {a b : Int} (h : a = b) : Ending.returned (.int .i64 a) = Ending.returned (.int .i64 b) := by rw [h]
theorem rck (k r ax ay m o px py vx vy c : Int) (hc : chk r ax ay m o px py vx vy = c) : Rck k r ax ay m o px py vx vy c := fun w => by
 by_cases g0 : r < 4096
 ·have HC : Hid (c = 4) := Lib.hid (by rw [← hc]; unfold chk; repeat (first | rw [if_pos (by omega)] | rw [if_neg (by omega)]))
  clear hc
  go_enter Tryz.func18, Tryz.ntmps18
  go_wp2
  go_ret
  exact ⟨ret_i64 HC.out.symm, (Grown.refl _).alloc _ _⟩
 by_cases g1 : 4194304 < r
 ·have HC : Hid (c = 4) := Lib.hid (by rw [← hc]; unfold chk; repeat (first | rw [if_pos (by omega)] | rw [if_neg (by omega)]))
  clear hc
  go_enter Tryz.func18, Tryz.ntmps18
  go_wp2
  go_ret
  exact ⟨ret_i64 HC.out.symm, (Grown.refl _).alloc _ _⟩
 by_cases g2 : ¬ (-4194304 ≤ ax ∧ ax ≤ 4194304)
 ·have Jax := Lib.hid (rin (n := ax) (l := 4194304) (c := false) (by decide) (by decide) (decide_eq_false g2))
  have HC : Hid (c = 5) := Lib.hid (by rw [← hc]; unfold chk; repeat (first | rw [if_pos (by omega)] | rw [if_neg (by omega)]))
  clear hc
  go_enter Tryz.func18, Tryz.ntmps18
  go_wp2_with (first
   | ((with_reducible refine (Jax.out _).mono ?_); rintro e w' ⟨rfl, rfl⟩))
  go_ret
  exact ⟨ret_i64 HC.out.symm, (Grown.refl _).alloc _ _⟩
 replace g2 := Decidable.not_not.1 g2
 have Jax := Lib.hid (rin (n := ax) (l := 4194304) (c := true) (by decide) (by decide) (decide_eq_true g2))
 by_cases g3 : ¬ (-4194304 ≤ ay ∧ ay ≤ 4194304)
 ·have Jay := Lib.hid (rin (n := ay) (l := 4194304) (c := false) (by decide) (by decide) (decide_eq_false g3))
  have HC : Hid (c = 5) := Lib.hid (by rw [← hc]; unfold chk; repeat (first | rw [if_pos (by omega)] | rw [if_neg (by omega)]))
  clear hc
  go_enter Tryz.func18, Tryz.ntmps18
  go_wp2_with (first
   | ((with_reducible refine (Jax.out _).mono ?_); rintro e w' ⟨rfl, rfl⟩)
   | ((with_reducible refine (Jay.out _).mono ?_); rintro e w' ⟨rfl, rfl⟩))
  go_ret
  exact ⟨ret_i64 HC.out.symm, (Grown.refl _).alloc _ _⟩
 replace g3 := Decidable.not_not.1 g3
 have Jay := Lib.hid (rin (n := ay) (l := 4194304) (c := true) (by decide) (by decide) (decide_eq_true g3))
 by_cases g4 : m < 0
 ·have HC : Hid (c = 6) := Lib.hid (by rw [← hc]; unfold chk; repeat (first | rw [if_pos (by omega)] | rw [if_neg (by omega)]))
  clear hc
  go_enter Tryz.func18, Tryz.ntmps18
  go_wp2_with (first
   | ((with_reducible refine (Jax.out _).mono ?_); rintro e w' ⟨rfl, rfl⟩)
   | ((with_reducible refine (Jay.out _).mono ?_); rintro e w' ⟨rfl, rfl⟩))
  go_ret
  exact ⟨ret_i64 HC.out.symm, (Grown.refl _).alloc _ _⟩
 by_cases g5 : 1048576 < m
 ·have HC : Hid (c = 6) := Lib.hid (by rw [← hc]; unfold chk; repeat (first | rw [if_pos (by omega)] | rw [if_neg (by omega)]))
  clear hc
  go_enter Tryz.func18, Tryz.ntmps18
  go_wp2_with (first
   | ((with_reducible refine (Jax.out _).mono ?_); rintro e w' ⟨rfl, rfl⟩)
   | ((with_reducible refine (Jay.out _).mono ?_); rintro e w' ⟨rfl, rfl⟩))
  go_ret
  exact ⟨ret_i64 HC.out.symm, (Grown.refl _).alloc _ _⟩
 by_cases g6 : o < 0
 ·have HC : Hid (c = 7) := Lib.hid (by rw [← hc]; unfold chk; repeat (first | rw [if_pos (by omega)] | rw [if_neg (by omega)]))
  clear hc
  go_enter Tryz.func18, Tryz.ntmps18
  go_wp2_with (first
   | ((with_reducible refine (Jax.out _).mono ?_); rintro e w' ⟨rfl, rfl⟩)
   | ((with_reducible refine (Jay.out _).mono ?_); rintro e w' ⟨rfl, rfl⟩))
  go_ret
  exact ⟨ret_i64 HC.out.symm, (Grown.refl _).alloc _ _⟩
 by_cases g7 : 65536 < o
 ·have HC : Hid (c = 7) := Lib.hid (by rw [← hc]; unfold chk; repeat (first | rw [if_pos (by omega)] | rw [if_neg (by omega)]))
  clear hc
  go_enter Tryz.func18, Tryz.ntmps18
  go_wp2_with (first
   | ((with_reducible refine (Jax.out _).mono ?_); rintro e w' ⟨rfl, rfl⟩)
   | ((with_reducible refine (Jay.out _).mono ?_); rintro e w' ⟨rfl, rfl⟩))
  go_ret
  exact ⟨ret_i64 HC.out.symm, (Grown.refl _).alloc _ _⟩
 by_cases g8 : ¬ (-1073741824 ≤ px ∧ px ≤ 1073741824)
 ·have Jpx := Lib.hid (rin (n := px) (l := 1073741824) (c := false) (by decide) (by decide) (decide_eq_false g8))
  have HC : Hid (c = 8) := Lib.hid (by rw [← hc]; unfold chk; repeat (first | rw [if_pos (by omega)] | rw [if_neg (by omega)]))
  clear hc
  go_enter Tryz.func18, Tryz.ntmps18
  go_wp2_with (first
   | ((with_reducible refine (Jax.out _).mono ?_); rintro e w' ⟨rfl, rfl⟩)
   | ((with_reducible refine (Jay.out _).mono ?_); rintro e w' ⟨rfl, rfl⟩)
   | ((with_reducible refine (Jpx.out _).mono ?_); rintro e w' ⟨rfl, rfl⟩))
  go_ret
  exact ⟨ret_i64 HC.out.symm, (Grown.refl _).alloc _ _⟩
 replace g8 := Decidable.not_not.1 g8
 have Jpx := Lib.hid (rin (n := px) (l := 1073741824) (c := true) (by decide) (by decide) (decide_eq_true g8))
 by_cases g9 : ¬ (-1073741824 ≤ py ∧ py ≤ 1073741824)
 ·have Jpy := Lib.hid (rin (n := py) (l := 1073741824) (c := false) (by decide) (by decide) (decide_eq_false g9))
  have HC : Hid (c = 8) := Lib.hid (by rw [← hc]; unfold chk; repeat (first | rw [if_pos (by omega)] | rw [if_neg (by omega)]))
  clear hc
  go_enter Tryz.func18, Tryz.ntmps18
  go_wp2_with (first
   | ((with_reducible refine (Jax.out _).mono ?_); rintro e w' ⟨rfl, rfl⟩)
   | ((with_reducible refine (Jay.out _).mono ?_); rintro e w' ⟨rfl, rfl⟩)
   | ((with_reducible refine (Jpx.out _).mono ?_); rintro e w' ⟨rfl, rfl⟩)
   | ((with_reducible refine (Jpy.out _).mono ?_); rintro e w' ⟨rfl, rfl⟩))
  go_ret
  exact ⟨ret_i64 HC.out.symm, (Grown.refl _).alloc _ _⟩
 replace g9 := Decidable.not_not.1 g9
 have Jpy := Lib.hid (rin (n := py) (l := 1073741824) (c := true) (by decide) (by decide) (decide_eq_true g9))
 by_cases g10 : ¬ (-16777216 ≤ vx ∧ vx ≤ 16777216)
 ·have Jvx := Lib.hid (rin (n := vx) (l := 16777216) (c := false) (by decide) (by decide) (decide_eq_false g10))
  have HC : Hid (c = 9) := Lib.hid (by rw [← hc]; unfold chk; repeat (first | rw [if_pos (by omega)] | rw [if_neg (by omega)]))
  clear hc
  go_enter Tryz.func18, Tryz.ntmps18
  go_wp2_with (first
   | ((with_reducible refine (Jax.out _).mono ?_); rintro e w' ⟨rfl, rfl⟩)
   | ((with_reducible refine (Jay.out _).mono ?_); rintro e w' ⟨rfl, rfl⟩)
   | ((with_reducible refine (Jpx.out _).mono ?_); rintro e w' ⟨rfl, rfl⟩)
   | ((with_reducible refine (Jpy.out _).mono ?_); rintro e w' ⟨rfl, rfl⟩)
   | ((with_reducible refine (Jvx.out _).mono ?_); rintro e w' ⟨rfl, rfl⟩))
  go_ret
  exact ⟨ret_i64 HC.out.symm, (Grown.refl _).alloc _ _⟩
 replace g10 := Decidable.not_not.1 g10
 have Jvx := Lib.hid (rin (n := vx) (l := 16777216) (c := true) (by decide) (by decide) (decide_eq_true g10))
 by_cases g11 : ¬ (-16777216 ≤ vy ∧ vy ≤ 16777216)
 ·have Jvy := Lib.hid (rin (n := vy) (l := 16777216) (c := false) (by decide) (by decide) (decide_eq_false g11))
  have HC : Hid (c = 9) := Lib.hid (by rw [← hc]; unfold chk; repeat (first | rw [if_pos (by omega)] | rw [if_neg (by omega)]))
  clear hc
  go_enter Tryz.func18, Tryz.ntmps18
  go_wp2_with (first
   | ((with_reducible refine (Jax.out _).mono ?_); rintro e w' ⟨rfl, rfl⟩)
   | ((with_reducible refine (Jay.out _).mono ?_); rintro e w' ⟨rfl, rfl⟩)
   | ((with_reducible refine (Jpx.out _).mono ?_); rintro e w' ⟨rfl, rfl⟩)
   | ((with_reducible refine (Jpy.out _).mono ?_); rintro e w' ⟨rfl, rfl⟩)
   | ((with_reducible refine (Jvx.out _).mono ?_); rintro e w' ⟨rfl, rfl⟩)
   | ((with_reducible refine (Jvy.out _).mono ?_); rintro e w' ⟨rfl, rfl⟩))
  go_ret
  exact ⟨ret_i64 HC.out.symm, (Grown.refl _).alloc _ _⟩
 replace g11 := Decidable.not_not.1 g11
 have Jvy := Lib.hid (rin (n := vy) (l := 16777216) (c := true) (by decide) (by decide) (decide_eq_true g11))
 have HC : Hid (c = 0) := Lib.hid (by rw [← hc]; unfold chk; repeat (first | rw [if_pos (by omega)] | rw [if_neg (by omega)]))
 clear hc
 go_enter Tryz.func18, Tryz.ntmps18
 go_wp2_with (first
  | ((with_reducible refine (Jax.out _).mono ?_); rintro e w' ⟨rfl, rfl⟩)
  | ((with_reducible refine (Jay.out _).mono ?_); rintro e w' ⟨rfl, rfl⟩)
  | ((with_reducible refine (Jpx.out _).mono ?_); rintro e w' ⟨rfl, rfl⟩)
  | ((with_reducible refine (Jpy.out _).mono ?_); rintro e w' ⟨rfl, rfl⟩)
  | ((with_reducible refine (Jvx.out _).mono ?_); rintro e w' ⟨rfl, rfl⟩)
  | ((with_reducible refine (Jvy.out _).mono ?_); rintro e w' ⟨rfl, rfl⟩))
 go_ret
 exact ⟨ret_i64 HC.out.symm, (Grown.refl _).alloc _ _⟩
theorem chk_lim {r ax ay m o px py vx vy : Int} (h : chk r ax ay m o px py vx vy = 0) : (4096 ≤ r ∧ r ≤ 4194304) ∧ ((-4194304 ≤ ax ∧ ax ≤ 4194304) ∧ (-4194304 ≤ ay ∧ ay ≤ 4194304)) ∧ ((-1073741824 ≤ px ∧ px ≤ 1073741824) ∧ (-1073741824 ≤ py ∧ py ≤ 1073741824)) := by
 unfold chk at h
 split at h
 ·split at h
  ·split at h
   ·split at h
    ·split at h
     ·rename_i h1 h2 h3 h4 h5
      exact ⟨h1, h2, h5⟩
     ·omega
    ·omega
   ·omega
  ·omega
 ·omega
end Go.Proofs.YtaknmlohnifcdaaGreatDoor
section
namespace Go.Proofs.YtaknmlohnifcdaaGreatDoor

def empB (a b c d : Int) : Bool := decide (c < a ∨ d < b)
def ovlB (a b c d e f g h : Int) : Bool := decide (a ≤ c ∧ b ≤ d ∧ e ≤ g ∧ f ≤ h ∧ a ≤ g ∧ e ≤ c ∧ b ≤ h ∧ f ≤ d)
end Go.Proofs.YtaknmlohnifcdaaGreatDoor
end
