/-
  Ranges over functions whose iterator reads cells of its own between two rounds, while the loop's body appends to a list in a box (no program).
-/
import Derived.Test.YtnmnbogjnjbopaaDoorSeq
import Derived.RangeFuncNested
import Derived.RangeFuncBound
import Derived.RangeFuncCalls
import Derived.RangeFuncLeaves
import Derived.Shelf.Abstract
import Derived.OwnWalkIn
import Derived.TacticsInMore
import Derived.LoopNIn
import Derived.LoopIn
import Derived.Maps.AppendAt
namespace Go.Proofs.YtnmnbogjnjbopaaDoor
open Go.RowKit Go.Lib

/-- What a round keeps that appends to the list in the box Bx: the cells of every other block but the list's own; the list's own block is the old one or a new one. -/
def LKp (Bx : Nat) (T : TypeId) (W W' : World) : Prop := W.heap.size ≤ W'.heap.size ∧ ∀ v, Boxed W Bx T v → ∃ v', Boxed W' Bx T v' ∧ (∀ g, v'.ownBlock = some g → v.ownBlock = some g ∨ W.heap.size ≤ g) ∧
  ∀ k o, k ≠ Bx → v.ownBlock ≠ some k → W.heap[k]? = some o → o.isCells = true → W'.heap[k]? = some o
theorem LKp.trans {Bx : Nat} {T : TypeId} {A B C : World} (h : LKp Bx T A B) (k : LKp Bx T B C) : LKp Bx T A C := by
  refine ⟨Nat.le_trans h.1 k.1, fun v hv => ?_⟩
  obtain ⟨v1, b1, o1, c1⟩ := h.2 v hv
  obtain ⟨v2, b2, o2, c2⟩ := k.2 v1 b1
  refine ⟨v2, b2, fun g e => ?_, fun j o hj hn ho hc => ?_⟩
  · rcases o2 g e with e | e
    · exact o1 g e
    · exact .inr (Nat.le_trans h.1 e)
  · have hl : j < A.heap.size := (Array.getElem?_eq_some_iff.1 ho).1
    exact c2 j o hj (fun e => by rcases o1 j e with e | e <;> first | exact hn e | omega) (c1 j o hj hn ho hc) hc
theorem LKp.turn {Bx : Nat} {T : TypeId} {w : World} (W : World) (l : Nat) (o o' : Obj) (_ : w.heap.size ≤ l) (h : W.heap[l]? = some o) (hc : o.isCells = false) (_ : o.isWalk = false) : LKp Bx T W (W.putObj l o') := by
  refine ⟨by simp [World.putObj], fun v hv => ⟨v, ?_, fun g e => .inl e, fun k o2 _ _ ho hk => ?_⟩⟩
  · have n : Bx ≠ l := fun e => by subst e; rw [show W.heap[Bx]? = _ from hv] at h; cases h; cases hc
    exact (World.putObj_heap_other n).trans hv
  · have n : k ≠ l := fun e => by subst e; rw [ho] at h; cases h; rw [hc] at hk; cases hk
    exact (World.putObj_heap_other n).trans ho
theorem LKp.refl (Bx : Nat) (T : TypeId) (W : World) : LKp Bx T W W := ⟨Nat.le_refl _, fun v hv => ⟨v, hv, fun _ e => .inl e, fun _ _ _ _ ho _ => ho⟩⟩
/-- The box is there, and blocks p and q are not its list's own. -/
def Apt (Bx : Nat) (T : TypeId) (bs : List Nat) (W : World) : Prop := ∃ v, Boxed W Bx T v ∧ ∀ b ∈ bs, b ≠ Bx ∧ v.ownBlock ≠ some b ∧ b < W.heap.size
theorem Apt.next {Bx : Nat} {T : TypeId} {bs : List Nat} {W W' : World} (h : Apt Bx T bs W) (k : LKp Bx T W W') : Apt Bx T bs W' := by
  obtain ⟨v, hv, hb⟩ := h
  obtain ⟨v', b', o', _⟩ := k.2 v hv
  refine ⟨v', b', fun b hm => ⟨(hb b hm).1, fun e => ?_, Nat.lt_of_lt_of_le (hb b hm).2.2 k.1⟩⟩
  rcases o' b e with e | e
  · exact (hb b hm).2.1 e
  · have := (hb b hm).2.2
    omega
theorem Apt.cell {Bx : Nat} {T : TypeId} {bs : List Nat} {W W' : World} (h : Apt Bx T bs W) (k : LKp Bx T W W') {b o : Nat} {u : Value} (hm : b ∈ bs) (hu : W.cell? ⟨b, o, none⟩ = some u) : W'.cell? ⟨b, o, none⟩ = some u := by
  obtain ⟨v, hv, hb⟩ := h
  obtain ⟨_, _, _, c'⟩ := k.2 v hv
  obtain ⟨ob, e1, e2⟩ := cells_of_cell hu
  have e3 := c' b ob (hb b hm).1 (hb b hm).2.1 e1 e2
  rw [← hu]
  exact World.cell?_of_block (e3.trans e1.symm)
/-- A round that appends, laid out: the box's list grows from v to v'. -/
theorem LKp.appended {Bx : Nat} {T : TypeId} {v v' : Value} {W w1 : World} {tmp : Obj} (hv : Boxed W Bx T v)
    (hgrow : (W.alloc tmp).grownBy w1 v.ownBlock) (hnew : ∀ g, v'.ownBlock = some g → v.ownBlock = some g ∨ W.heap.size ≤ g) (hv2 : Boxed (w1.setCell ⟨Bx, 0, none⟩ v') Bx T v') : LKp Bx T W (w1.setCell ⟨Bx, 0, none⟩ v') := by
  refine ⟨?_, fun u hu => ?_⟩
  · have := hgrow.size
    simp at this
    have e : (w1.setCell ⟨Bx, 0, none⟩ v').heap.size = w1.heap.size := by simp [World.setCell]
    omega
  · obtain rfl : u = v := by
      have := (show W.heap[Bx]? = _ from hu).symm.trans hv
      simpa using this
    refine ⟨v', hv2, hnew, fun j o hj hn ho _ => ?_⟩
    have hl : j < W.heap.size := (Array.getElem?_eq_some_iff.1 ho).1
    rw [Below.heap_setCell _ _ _ j hj, hgrow.block j (by simp; omega) (fun e => hn e.symm), Below.heap_alloc _ _ j hl]
    exact ho
/-- Where a slice lies that was appended to: where it lay, or in a new block. -/
theorem append_where {P : Program} (w : World) (base : Nat) (t ty e : TypeId) (i : TypeInfo) (z : Value) (size bytes : Nat) (ht : P.underlying t = some (.slice e)) (hi : P.info? e = some i) (hz : i.zero = some z) (hsize : i.size = size) (hby : i.bytes = bytes)
    (v : Value) (n : Nat) (xs : List Value) (hown : w.ownsRow base e size v n xs) (a : Addr) (m c : Nat) (hm : 0 < m) (news : List Value) (hl : news.length = m * size) (hnews : ∀ j u, news[j]? = some u → w.cell? (a.add j) = some u) (h1 : ∀ u ∈ news, u.oneCell' = true)
    (h63 : n + m ≤ maxLen) (hbytes : (n + m) * bytes ≤ 140737488355328) (v' : Value) (w' : World) (hr : (Builtin.append_ #[t, t] ty #[v, .slice (some a) m c]).run P w = .ok v' w') : ∀ g, v'.ownBlock = some g → v.ownBlock = some g ∨ w.heap.size ≤ g := by
  subst hsize
  subst hby
  have hsmall : n + m ≤ 9223372036854775807 := by simp only [maxLen] at h63; omega
  intro g hg
  rcases hown.2 with ⟨rfl, rfl⟩ | ⟨b, cap, cur, rfl, _, hb, _, _, hcs, _⟩
  · have q := run_append_nil (P := P) w t ty e i z ht hi hz a m c news hl hnews hm (by omega) (by simp only [Nat.zero_add] at hbytes; omega)
    rw [hr] at q
    injection q with q1 q2
    subst q1
    simp [Value.ownBlock] at hg
    exact .inr (by omega)
  · by_cases room : n + m ≤ cap
    · have q := run_append_room (P := P) w t ty e i ht hi b n cap cur hb a m c news hl hnews h1 room (by rw [hl, hcs, ← Nat.add_mul]; exact Nat.mul_le_mul_right _ room)
      rw [hr] at q
      injection q with q1 q2
      subst q1
      exact .inl hg
    · have q := run_append_grow (P := P) w t ty e i z ht hi hz ⟨b, 0, none⟩ n cap xs hown.1 (hown.cells (g := b) rfl) a m c news hl hnews (by omega) (by omega) (growslice_fits (by omega) hbytes)
      rw [hr] at q
      injection q with q1 q2
      subst q1
      simp [Value.ownBlock] at hg
      exact .inr (by omega)
/-- An element appended to a slice of the call's own, inside a fence. -/
theorem wpListIn_app {α : Type} (f : α → List Value) (n : Nat) (hf : ∀ x, (f x).length = n) (h1 : ∀ x, ∀ u ∈ f x, u.oneCell' = true) {Fn : Fence} {dp : Nat} {P : Program} {ops : Array Oper} {rest : List Oper} {o : Oper} {a : Act} {Q : Exit → Act → World → Prop} (hgd : o.guard = none) (s x : Operand) (t : TypeId)
    (ho : o.op = .call { callee := .builtin .append, args := #[s, x], argTypes := #[t, t] }) (e : TypeId) (z : Value) (bytes : Nat) (ht : P.underlying t = some (.slice e))
    (hi : (P.info? e).map (fun i => (i.zero, i.size, i.bytes)) = some (some z, n, bytes)) (hzs : z.cells.size = n) (hn : 0 < n)
    (B : Nat) (W : World) (v : Value) (L : List α) (y : α) (hs : a.eval s = v) (hown : W.ownsRow B e n v L.length (L.flatMap f)) (b : Nat) (hb : b = W.heap.size) (hx : a.eval x = .slice (some ⟨b, 0, none⟩) 1 1)
    (cs : Array Value) (hcs : cs.toList = f y) (hl : L.length + 1 ≤ maxLen) (hby : (L.length + 1) * bytes ≤ 140737488355328) (hB : B ≤ W.heap.size)
    (h : ∀ g cap w', w'.ownsRow B e n (.slice (some ⟨g, 0, none⟩) (L.length + 1) cap) (L ++ [y]).length ((L ++ [y]).flatMap f) → (W.alloc (.cells cs e)).grownBy w' v.ownBlock → (v.ownBlock = some g ∨ W.heap.size ≤ g) →
      wpListIn Fn dp P ops Q rest (a.put o.dst (.slice (some ⟨g, 0, none⟩) (L.length + 1) cap)) w') : wpListIn Fn dp P ops Q (o :: rest) a (W.alloc (.cells cs e)) := by
  subst hb
  obtain ⟨i0, hi0, hz0, hz1, hz2⟩ := info_parts hi
  have hnews : ∀ (j : Nat) (u : Value), (f y)[j]? = some u → (W.alloc (.cells cs e)).cell? ((⟨W.heap.size, 0, none⟩ : Addr).add j) = some u := fun j u hu => by
    have q : ((⟨W.heap.size, 0, none⟩ : Addr).add j) = ⟨W.heap.size, j, none⟩ := by simp [Addr.add]; exact Eq.symm
    rw [q, World.cell?_alloc_at _ _ _ _ rfl]
    rw [← hcs] at hu
    simpa using hu
  refine wpListIn_plain hgd fun K hK => ?_
  obtain ⟨v', w', hrun, r1, r2, _⟩ := run_append_own (P := P) (W.alloc (.cells cs e)) B t o.type e i0 z n bytes ht hi0 hz0 hz1 hz2 hzs hn v L.length (L.flatMap f) (hown.alloc _) ⟨W.heap.size, 0, none⟩ 1 1 (f y) (by rw [hf]; omega) hnews (h1 y) hl hby (by simp; omega)
  have fr := append_where (P := P) (W.alloc (.cells cs e)) B t o.type e i0 z n bytes ht hi0 hz0 hz1 hz2 v L.length (L.flatMap f) (hown.alloc _) ⟨W.heap.size, 0, none⟩ 1 1 (by decide) (f y) (by rw [hf]; omega) hnews (h1 y) hl hby v' w' hrun
  obtain ⟨g, cap, rfl⟩ := ownsRow_succ r1
  unfold Oper.wpIn
  refine ⟨?_, ?_⟩
  · simp [Oper.about, ho, resolve, Target.leads, Sem.run_pure]
  · rw [Oper.semAt_plain Fn _ _ (by rw [ho]; intro c hc'; cases hc')]
    simp [execOp, ho, resolve, invoke, builtin, hs, hx, hrun, Result.andThen]
    refine hK _ _ (h g cap w' (by simpa using r1) r2 ?_)
    rcases fr g rfl with q | q
    · exact .inl q
    · exact .inr (by simp at q; omega)
end Go.Proofs.YtnmnbogjnjbopaaDoor
