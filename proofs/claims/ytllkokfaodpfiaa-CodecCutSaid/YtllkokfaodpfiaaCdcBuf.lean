/-
  Package codec: a buffer of bytes of the call's own, told by its cells (a conversion's row among them), and append onto it (no program).
-/
import Derived.Test.YtllkokfaodpfiaaSeq
import Derived.Test.YtllkokfaodpfiaaFrO
import Derived.Test.YtllkokfaodpfiaaZa
import Derived.Test.YtllkokfaodpfiaaCdcMath
import Derived.ArgAppend
namespace Go.Proofs.Ytllkokfaodpfiaa
open Go.RowKit Go.Lib

/-- A buffer of bytes of the call's own: its bytes, and room behind them. -/
def BufB (w : World) (B : Nat) (v : Value) (bs : List Int) : Prop :=
  ∃ g cap, v = .slice (some ⟨g, 0, none⟩) bs.length cap ∧ B ≤ g ∧ bs.length ≤ cap ∧ cap ≤ maxLen ∧ (∀ i n, bs[i]? = some n → w.cell? ⟨g, i, none⟩ = some (.int .u8 n)) ∧ (∀ i, i < cap → (w.cell? ⟨g, i, none⟩).isSome = true ∧ w.frozen? ⟨g, i, none⟩ = false) ∧ g < w.heap.size
theorem BufB.kep {w w' : World} {B : Nat} {v : Value} {bs : List Int} (h : BufB w B v bs) (k : Kep w.heap.size w w') : BufB w' B v bs := by
  obtain ⟨g, cap, e, hb, hl, hm, hc, hf, hg⟩ := h
  refine ⟨g, cap, e, hb, hl, hm, fun i n hi => k.all (hc i n hi), fun i hi => ?_, Nat.lt_of_lt_of_le hg k.size⟩
  rw [World.cell?_of_block (w := w) (k.block g hg), World.frozen?_of_block (w := w) (k.block g hg)]
  exact hf i hi
theorem BufB.sq {w : World} {B : Nat} {v : Value} {bs : List Int} (h : BufB w B v bs) : Sq bv 1 w v bs := by
  obtain ⟨g, cap, e, _, _, _, hc, _, _⟩ := h
  refine ⟨_, _, e, fun k n hk => ⟨g, 0, rfl, fun i u hu => ?_⟩⟩
  match i, hu with
  | 0, hu =>
    simp [bv] at hu
    subst hu
    rw [Nat.zero_add, Nat.mul_one, Nat.add_zero]
    exact hc k n hk
theorem BufB.rmy {w : World} {B : Nat} {v : Value} {bs : List Int} (h : BufB w B v bs) : Rmy v := fun b n c e => by
  obtain ⟨g, cap, e2, _, hl, _⟩ := h
  rw [e2] at e
  injection e with _ e3 e4
  omega
theorem BufB.lo {w : World} {B C : Nat} {v : Value} {bs : List Int} (h : BufB w B v bs) (hC : C ≤ B) : BufB w C v bs := by
  obtain ⟨g, cap, e, hb, r⟩ := h
  exact ⟨g, cap, e, Nat.le_trans hC hb, r⟩
theorem kep_setCells {a : World} {B b : Nat} (hb : B ≤ b) : ∀ (vs : List Value) (o : Nat) {w : World}, Kep B a w → Kep B a (w.setCells b o vs)
  | [], _, _, h => h
  | v :: l, o, w, h => by
    unfold World.setCells
    exact kep_setCells hb l (o + 1) (h.setCell hb v)
theorem size_setCells (b : Nat) : ∀ (vs : List Value) (o : Nat) (w : World), (w.setCells b o vs).heap.size = w.heap.size
  | [], _, _ => rfl
  | v :: l, o, w => by
    unfold World.setCells
    rw [size_setCells b l, World.size_setCell]
/-- What is owned is such a buffer. -/
theorem buf_own {w : World} {B : Nat} {t : TypeId} {v : Value} {bs : List Int} (h : w.ownsRow B t 1 v bs.length (bs.flatMap bv)) (hne : bs ≠ []) : BufB w B v bs := by
  rcases h.2 with ⟨_, e⟩ | ⟨g, cap, cur, e, hb, hg, hn, hm, hcs, ht⟩
  · exact absurd (List.eq_nil_of_length_eq_zero e) hne
  · have hc : ∀ j, w.cell? ⟨g, j, none⟩ = cur[j]? := fun j => cell_of_row w g j cur t (0, 0) hg
    refine ⟨g, cap, e, hb, hn, hm, fun i n hi => ?_, fun i hi => ⟨?_, ?_⟩, (Array.getElem?_eq_some_iff.1 hg).1⟩
    · have q := cat_get (f := bv) (n := 1) (fun _ => rfl) bs i n hi 0 (by decide)
      rw [Nat.mul_one, Nat.add_zero, ← ht, List.getElem?_take] at q
      split at q
      · rw [hc, ← Array.getElem?_toList, q]
        rfl
      · simp [bv] at q
    · rw [hc, Array.getElem?_eq_getElem (by rw [hcs]; omega)]
      rfl
    · simp [World.frozen?, hg]
theorem app_room {W : World} {B g cap : Nat} {bs : List Int} (hb : B ≤ g) (hm : cap ≤ maxLen) (hc : ∀ i n, bs[i]? = some n → W.cell? ⟨g, i, none⟩ = some (.int .u8 n)) (hf : ∀ i, i < cap → (W.cell? ⟨g, i, none⟩).isSome = true ∧ W.frozen? ⟨g, i, none⟩ = false) (hg : g < W.heap.size) (ds : List Int) (hr : bs.length + ds.length ≤ cap) :
    BufB (W.setCells g (0 + bs.length * 1) (ds.flatMap bv)) B (.slice (some ⟨g, 0, none⟩) (bs.length + ds.length) cap) (bs ++ ds) ∧ Kep B W (W.setCells g (0 + bs.length * 1) (ds.flatMap bv)) := by
  have hl : (ds.flatMap bv).length = ds.length := by rw [cat_len (f := bv) (n := 1) (fun _ => rfl)]; omega
  refine ⟨⟨g, cap, by rw [List.length_append], hb, by rw [List.length_append]; exact hr, hm, fun i n hi => ?_, fun i hi => ⟨?_, ?_⟩, by rw [size_setCells]; exact hg⟩, kep_setCells hb _ _ (Kep.refl _ _)⟩
  · by_cases q : i < bs.length
    · rw [List.getElem?_append_left q] at hi
      rw [World.cell?_setCells_out _ _ _ _ _ (fun _ _ => .inl (by dsimp only; omega))]
      exact hc i n hi
    · rw [List.getElem?_append_right (by omega)] at hi
      have hi2 := (List.getElem?_eq_some_iff.1 hi).1
      have q1 := World.cell?_setCells_in g (ds.flatMap bv) (0 + bs.length * 1) W (fun j hj => (hf _ (by omega)).1) (i - bs.length) (by omega)
      have q2 := cat_get (f := bv) (n := 1) (fun _ => rfl) ds (i - bs.length) n hi 0 (by decide)
      rw [Nat.mul_one, Nat.add_zero, List.getElem?_eq_getElem (by omega)] at q2
      injection q2 with q2
      rw [show 0 + bs.length * 1 + (i - bs.length) = i by omega, q2] at q1
      exact q1
  · by_cases q : i < bs.length ∨ bs.length + ds.length ≤ i
    · rw [World.cell?_setCells_out _ _ _ _ _ (fun _ _ => by dsimp only; omega)]
      exact (hf i hi).1
    · have q1 := World.cell?_setCells_in g (ds.flatMap bv) (0 + bs.length * 1) W (fun j hj => (hf _ (by omega)).1) (i - bs.length) (by omega)
      rw [show 0 + bs.length * 1 + (i - bs.length) = i by omega] at q1
      rw [q1]
      rfl
  · rw [World.frozen?_setCells]
    exact (hf i hi).2
/-- What an append leaves: the buffer's block alone is written; the result lies there, or in a new block. -/
def AppF (v v' : Value) (W w' : World) : Prop := ∃ g, v.ownBlock = some g ∧ FrO g g W w' ∧ (v'.ownBlock = some g ∨ ∃ g', v'.ownBlock = some g' ∧ W.heap.size ≤ g')
theorem app_fro (g : Nat) (W : World) : ∀ (vs : List Value) (o : Nat), FrO g g W (W.setCells g o vs) := fun vs o => by
  have k : ∀ (vs : List Value) (o : Nat) (w : World), FrO g g W w → FrO g g W (w.setCells g o vs) := fun vs => by
    induction vs with
    | nil => exact fun _ _ h => h
    | cons v l ih =>
      intro o w h
      unfold World.setCells
      exact ih (o + 1) _ (h.set1 v)
  exact k vs o W (.refl _ _ _)
theorem BufB.own {w : World} {B : Nat} {v : Value} {bs : List Int} (h : BufB w B v bs) : ∃ g, v.ownBlock = some g ∧ B ≤ g ∧ g < w.heap.size := by
  obtain ⟨g, cap, e, hb, _, _, _, _, hg⟩ := h
  exact ⟨g, by rw [e]; rfl, hb, hg⟩
theorem AppF.kep {v v' : Value} {W w' : World} {B : Nat} {bs : List Int} (h : AppF v v' W w') (b : BufB W B v bs) : Kep B W w' := by
  obtain ⟨g, e, f, _⟩ := h
  obtain ⟨g2, e2, h2, h3⟩ := b.own
  rw [e] at e2
  injection e2 with e2
  subst e2
  exact f.down h2 h2 (by omega)
/-- A block that lies apart from a buffer stays so, and keeps its cells. -/
theorem AppF.za {v v' : Value} {W w' : World} {b : Nat} {vs : List Value} (h : AppF v v' W w') (n : v.ownBlock ≠ some b) (z : ZA W b vs) : ZA w' b vs := fun i hi => by
  obtain ⟨g, e, f, _⟩ := h
  have q := z i hi
  rw [List.getElem?_eq_getElem hi] at q ⊢
  have n2 : b ≠ g := fun c => n (by rw [e, c])
  exact f.cell n2 n2 q
theorem AppF.ne {v v' : Value} {W w' : World} {b : Nat} (h : AppF v v' W w') (n : v.ownBlock ≠ some b) (hb : b < W.heap.size) : v'.ownBlock ≠ some b := by
  obtain ⟨g, e, _, q | ⟨g', q, hg⟩⟩ := h
  · rw [q, ← e]
    exact n
  · rw [q]
    intro c
    injection c with c
    omega
theorem AppF.size {v v' : Value} {W w' : World} (h : AppF v v' W w') : W.heap.size ≤ w'.heap.size := by
  obtain ⟨g, _, f, _⟩ := h
  exact f.size
/-- A list of bytes appended to a buffer of the call's own. -/
theorem run_appB {P : Program} (t ty e : TypeId) (ht : P.underlying t = some (.slice e)) (hi : (P.info? e).map (fun i => (i.zero, i.size, i.bytes)) = some (some (.int .u8 0), 1, 1))
    (B : Nat) (W : World) (v vx : Value) (bs ds : List Int) (hown : BufB W B v bs) (hq : Sq bv 1 W vx ds) (hne : ds ≠ []) (hl : bs.length + ds.length ≤ 1000000) (hB : B ≤ W.heap.size) :
    ∃ v' w', (Builtin.append_ #[t, t] ty #[v, vx]).run P W = .ok v' w' ∧ BufB w' B v' (bs ++ ds) ∧ AppF v v' W w' := by
  obtain ⟨i0, hi0, hz0, hz1, hz2⟩ := info_parts hi
  obtain ⟨g, cap, rfl, hb, hbc, hm, hc, hf, hg⟩ := hown
  obtain ⟨base, cx, rfl⟩ := hq.shape
  cases base with
  | none =>
    obtain ⟨_, _, e0, q⟩ := hq
    injection e0 with e1
    obtain ⟨y, l, rfl⟩ := List.exists_cons_of_ne_nil hne
    obtain ⟨_, _, e2, _⟩ := q 0 y rfl
    rw [← e1] at e2
    cases e2
  | some ad =>
    have hml : (1000000 : Nat) ≤ maxLen := by unfold maxLen; omega
    have ho2 : ∀ j u, (bs.flatMap bv)[j]? = some u → W.cell? ((⟨g, 0, none⟩ : Addr).add j) = some u := fun j u hu => by
      have hj := (List.getElem?_eq_some_iff.1 hu).1
      rw [cat_len (f := bv) (n := 1) (fun _ => rfl)] at hj
      have hj2 : j < bs.length := by omega
      have q := cat_get (f := bv) (n := 1) (fun _ => rfl) bs j _ (List.getElem?_eq_getElem hj2) 0 (by decide)
      rw [Nat.mul_one, Nat.add_zero, hu] at q
      rw [add_off, Nat.zero_add, q]
      exact hc j _ (List.getElem?_eq_getElem hj2)
    have hld : (ds.flatMap bv).length = ds.length * 1 := cat_len (f := bv) (n := 1) (fun _ => rfl) ds
    have hnews := Sq.cells (f := bv) (n := 1) (fun _ => rfl) hq
    by_cases hr : bs.length + ds.length ≤ cap
    · have r := run_append_room_cells (P := P) W t ty e i0 ht hi0 g 0 bs.length cap ad ds.length cx (ds.flatMap bv) (by rw [hz1]; exact hld) hnews (fun u hu => by
        obtain ⟨y, _, hy⟩ := List.mem_flatMap.1 hu
        simp [bv] at hy
        subst hy
        rfl) hr (fun j hj => (hf _ (by rw [hz1]; omega)).1) (fun j hj => (hf _ (by rw [hz1]; omega)).2)
      rw [hz1] at r
      obtain ⟨q1, _⟩ := app_room hb hm hc hf hg ds hr
      exact ⟨_, _, r, q1, g, rfl, app_fro g W _ _, .inl rfl⟩
    · obtain ⟨v', w', r, h2, h3⟩ := run_append_arg_grows (P := P) W t ty e i0 (.int .u8 0) 1 1 ht hi0 hz0 hz1 hz2 rfl (by decide) ⟨g, 0, none⟩ bs.length cap (bs.flatMap bv) (cat_len (f := bv) (n := 1) (fun _ => rfl) bs) ho2 ad ds.length cx (ds.flatMap bv) hld hnews (by omega) (by omega) (by omega)
      have e : bs.flatMap bv ++ ds.flatMap bv = (bs ++ ds).flatMap bv := by simp
      rw [e, ← List.length_append] at h2
      refine ⟨v', w', r, (buf_own h2 (by simp [hne])).lo hB, g, rfl, .of_kep ((Kep.refl _ W).row h3 (Nat.le_refl _) (fun k hk => by simp at hk)), ?_⟩
      obtain ⟨g', c', e', hb', _⟩ := buf_own h2 (by simp [hne])
      exact .inr ⟨g', by rw [e']; rfl, hb'⟩
theorem wp_appB {P : Program} {o : Oper} {a : Act} {K : Act → World → Prop} {Q : Exit → Act → World → Prop} (s x : Operand) (t : TypeId)
    (ho : o.op = .call { callee := .builtin .append, args := #[s, x], argTypes := #[t, t] }) (e : TypeId) (ht : P.underlying t = some (.slice e))
    (hi : (P.info? e).map (fun i => (i.zero, i.size, i.bytes)) = some (some (.int .u8 0), 1, 1))
    (B : Nat) (W : World) (v vx : Value) (bs ds : List Int) (hs : a.eval s = v) (hown : BufB W B v bs) (hx : a.eval x = vx) (hq : Sq bv 1 W vx ds) (hne : ds ≠ []) (hl : bs.length + ds.length ≤ 1000000) (hB : B ≤ W.heap.size)
    (h : ∀ v' w', BufB w' B v' (bs ++ ds) → AppF v v' W w' → K (a.put o.dst v') w') : Oper.wp P o a W K Q := by
  obtain ⟨v', w', hr, h2, h3⟩ := run_appB (P := P) t o.type e ht hi B W v vx bs ds hown hq hne hl hB
  unfold Oper.wp execOp
  simp only [ho, resolve, invoke, builtin, Sem.run_bind, Sem.run_pure, Result.andThen_ok, List.map_toArray, List.map_cons, List.map_nil, hs, hx, hr]
  exact h v' w' h2 h3
/-- The same in a list of operations, and at a step of a region that draws its order. -/
theorem wpList_appB {P : Program} {ops : Array Oper} {rest : List Oper} {o : Oper} {a : Act} {Q : Exit → Act → World → Prop} (hgd : o.guard = none) (s x : Operand) (t : TypeId)
    (ho : o.op = .call { callee := .builtin .append, args := #[s, x], argTypes := #[t, t] }) (e : TypeId) (ht : P.underlying t = some (.slice e))
    (hi : (P.info? e).map (fun i => (i.zero, i.size, i.bytes)) = some (some (.int .u8 0), 1, 1))
    (B : Nat) (W : World) (v vx : Value) (bs ds : List Int) (hs : a.eval s = v) (hown : BufB W B v bs) (hx : a.eval x = vx) (hq : Sq bv 1 W vx ds) (hne : ds ≠ []) (hl : bs.length + ds.length ≤ 1000000) (hB : B ≤ W.heap.size)
    (h : ∀ v' w', BufB w' B v' (bs ++ ds) → AppF v v' W w' → wpList P ops Q rest (a.put o.dst v') w') : wpList P ops Q (o :: rest) a W :=
  wpList_plain hgd fun _ hK => wp_appB s x t ho e ht hi B W v vx bs ds hs hown hx hq hne hl hB fun v' w' h2 h3 => hK _ _ (h v' w' h2 h3)
theorem step_appB {P : Program} {ops : Array Oper} {o : Oper} {a : Act} {K : Act → World → Prop} {Q : Exit → Act → World → Prop} {E : Prop} (hgd : o.guard = none) (s x : Operand) (t : TypeId)
    (ho : o.op = .call { callee := .builtin .append, args := #[s, x], argTypes := #[t, t] }) (e : TypeId) (ht : P.underlying t = some (.slice e))
    (hi : (P.info? e).map (fun i => (i.zero, i.size, i.bytes)) = some (some (.int .u8 0), 1, 1))
    (B : Nat) (W : World) (v vx : Value) (bs ds : List Int) (hs : a.eval s = v) (hown : BufB W B v bs) (hx : a.eval x = vx) (hq : Sq bv 1 W vx ds) (hne : ds ≠ []) (hl : bs.length + ds.length ≤ 1000000) (hB : B ≤ W.heap.size)
    (h : ∀ v' w', BufB w' B v' (bs ++ ds) → AppF v v' W w' → K (a.put o.dst v') w') : if Region.wanted o (yielded ops a.tmps) = true then Oper.wp P o a W K Q else E := by
  have hw : Region.wanted o (yielded ops a.tmps) = true := by simp [Region.wanted, hgd]
  rw [if_pos hw]
  exact wp_appB s x t ho e ht hi B W v vx bs ds hs hown hx hq hne hl hB h
end Go.Proofs.Ytllkokfaodpfiaa
