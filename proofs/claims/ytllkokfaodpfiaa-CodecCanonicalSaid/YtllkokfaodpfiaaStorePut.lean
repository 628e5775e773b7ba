/-
  Package store's reference: Put.
-/
import Derived.Test.YtllkokfaodpfiaaStoreFind
import Derived.Test.YtllkokfaodpfiaaKep
import Derived.Deep.QuietTactic
import Derived.BigQuiet
namespace Go.Proofs.Ytllkokfaodpfiaa
open Go.RowKit Go.Lib

/-- The cells of a list of bodies. -/
def flat (l : List Bd) : List Value := l.flatMap vals
theorem flat_snoc (l : List Bd) (b : Bd) : flat (l ++ [b]) = flat l ++ vals b := by simp [flat]
theorem info_body : (Try.prog.info? 46).map (fun i => (i.zero, i.size, i.bytes)) = some (some (.agg #[.int .u32 0, .int .i32 0, .int .i32 0, .int .i32 0, .int .i32 0, .int .i32 0, .int .i32 0, .int .i32 0, .int .i32 0, .int .i32 0]), 10, 40) := by kernel_rfl

theorem news_at (W : World) (n : Nat) (hn : n = W.heap.size) (x : Bd) (t : TypeId) : ∀ (j : Nat) (u : Value), (vals x)[j]? = some u → (W.alloc (.cells #[.int .u32 x.k, .int .i32 x.r, .int .i32 x.ax, .int .i32 x.ay, .int .i32 x.m, .int .i32 x.o, .int .i32 x.px, .int .i32 x.py, .int .i32 x.vx, .int .i32 x.vy] t)).cell? ((⟨n, 0, none⟩ : Addr).add j) = some u := fun j u h => by
  subst hn
  have e : ((⟨W.heap.size, 0, none⟩ : Addr).add j) = ⟨W.heap.size, j, none⟩ := by simp [Addr.add]; exact Eq.symm
  rw [e, World.cell?_alloc_at _ _ _ _ rfl]
  have q : #[.int .u32 x.k, .int .i32 x.r, .int .i32 x.ax, .int .i32 x.ay, .int .i32 x.m, .int .i32 x.o, .int .i32 x.px, .int .i32 x.py, .int .i32 x.vx, .int .i32 x.vy] = (vals x).toArray := rfl
  rw [q]
  simpa using h
theorem one_cell (x : Bd) : ∀ u ∈ vals x, u.oneCell' = true := by
  intro u hu
  simp only [vals, List.mem_cons, List.not_mem_nil, or_false] at hu
  rcases hu with rfl | rfl | rfl | rfl | rfl | rfl | rfl | rfl | rfl | rfl <;> rfl
/-- A body appended: what is owned, and what is kept. -/
theorem put_more {B : Nat} {l : List Bd} {x : Bd} {out v' : Value} {W W' w1 wq : World} (ho : wq.ownsRow (B + 1) 46 10 out l.length (flat l)) (hk : Kep (B + 1) w1 wq) (hB : B + 1 ≤ wq.heap.size) (hW : W = wq.alloc (.cells #[.int .u32 x.k, .int .i32 x.r, .int .i32 x.ax, .int .i32 x.ay, .int .i32 x.m, .int .i32 x.o, .int .i32 x.px, .int .i32 x.py, .int .i32 x.vx, .int .i32 x.vy] 46))
    (h1 : W'.ownsRow (B + 1) 46 10 v' (l.length + 1) (flat l ++ vals x)) (h2 : W.grownBy W' out.ownBlock) : W'.ownsRow (B + 1) 46 10 v' (l ++ [x]).length (flat (l ++ [x])) ∧ Kep (B + 1) w1 W' := by
  subst hW
  rw [flat_snoc, List.length_append]
  exact ⟨h1, (hk.alloc hB _).row h2 (by simp; omega) (fun k e => (ho.lt k e).1)⟩

/-- What holds at a round's head. -/
def PutRel (B : Nat) (b : Bd) (gone : Bool) (L : List Bd) (w1 : World) (k : Nat) (out : Value) (done : Bool) (wr : World) : Prop :=
  done = (putTo b gone (L.take k)).2 ∧ wr.ownsRow (B + 1) 46 10 out (putTo b gone (L.take k)).1.length (flat (putTo b gone (L.take k)).1) ∧ Kep (B + 1) w1 wr

theorem put_arg {w wr : World} {b x : Bd} {g off k : Nat} (h : Kep (w.heap.size + 1) (w.alloc (.cells #[.int .u32 b.k, .int .i32 b.r, .int .i32 b.ax, .int .i32 b.ay, .int .i32 b.m, .int .i32 b.o, .int .i32 b.px, .int .i32 b.py, .int .i32 b.vx, .int .i32 b.vy] 46)) wr) (hc : ∀ i, i < 10 → w.cell? ⟨g, off + k * 10 + i, none⟩ = (vals x)[i]?) : wr.cell? ⟨g, off + k * 10, none⟩ = some (.int .u32 x.k) ∧ wr.cell? ⟨g, off + k * 10 + 1, none⟩ = some (.int .i32 x.r) ∧ wr.cell? ⟨g, off + k * 10 + 2, none⟩ = some (.int .i32 x.ax) ∧ wr.cell? ⟨g, off + k * 10 + 3, none⟩ = some (.int .i32 x.ay) ∧ wr.cell? ⟨g, off + k * 10 + 4, none⟩ = some (.int .i32 x.m) ∧ wr.cell? ⟨g, off + k * 10 + 5, none⟩ = some (.int .i32 x.o) ∧ wr.cell? ⟨g, off + k * 10 + 6, none⟩ = some (.int .i32 x.px) ∧ wr.cell? ⟨g, off + k * 10 + 7, none⟩ = some (.int .i32 x.py) ∧ wr.cell? ⟨g, off + k * 10 + 8, none⟩ = some (.int .i32 x.vx) ∧ wr.cell? ⟨g, off + k * 10 + 9, none⟩ = some (.int .i32 x.vy) := by
  have f : ∀ (i : Nat) (v : Value), i < 10 → (vals x)[i]? = some v → wr.cell? ⟨g, off + k * 10 + i, none⟩ = some v := fun i v hi hv => by
    have e := (hc i hi).trans hv
    have l := World.block_lt_of_cell? _ _ e
    refine h.holds (by simp at l; omega) ?_
    rw [World.cell?_alloc_past _ _ _ l]; exact e
  exact ⟨f 0 _ (by decide) rfl, f 1 _ (by decide) rfl, f 2 _ (by decide) rfl, f 3 _ (by decide) rfl, f 4 _ (by decide) rfl, f 5 _ (by decide) rfl, f 6 _ (by decide) rfl, f 7 _ (by decide) rfl, f 8 _ (by decide) rfl, f 9 _ (by decide) rfl⟩
theorem put_box {w wr : World} {b : Bd} (h : Kep (w.heap.size + 1) (w.alloc (.cells #[.int .u32 b.k, .int .i32 b.r, .int .i32 b.ax, .int .i32 b.ay, .int .i32 b.m, .int .i32 b.o, .int .i32 b.px, .int .i32 b.py, .int .i32 b.vx, .int .i32 b.vy] 46)) wr) : wr.cell? ⟨w.heap.size, 0, none⟩ = some (.int .u32 b.k) ∧ wr.cell? ⟨w.heap.size, 1, none⟩ = some (.int .i32 b.r) ∧ wr.cell? ⟨w.heap.size, 2, none⟩ = some (.int .i32 b.ax) ∧ wr.cell? ⟨w.heap.size, 3, none⟩ = some (.int .i32 b.ay) ∧ wr.cell? ⟨w.heap.size, 4, none⟩ = some (.int .i32 b.m) ∧ wr.cell? ⟨w.heap.size, 5, none⟩ = some (.int .i32 b.o) ∧ wr.cell? ⟨w.heap.size, 6, none⟩ = some (.int .i32 b.px) ∧ wr.cell? ⟨w.heap.size, 7, none⟩ = some (.int .i32 b.py) ∧ wr.cell? ⟨w.heap.size, 8, none⟩ = some (.int .i32 b.vx) ∧ wr.cell? ⟨w.heap.size, 9, none⟩ = some (.int .i32 b.vy) :=
  ⟨h.holds (by omega) (by rw [World.cell?_alloc_at _ _ _ _ rfl]; rfl), h.holds (by omega) (by rw [World.cell?_alloc_at _ _ _ _ rfl]; rfl), h.holds (by omega) (by rw [World.cell?_alloc_at _ _ _ _ rfl]; rfl), h.holds (by omega) (by rw [World.cell?_alloc_at _ _ _ _ rfl]; rfl), h.holds (by omega) (by rw [World.cell?_alloc_at _ _ _ _ rfl]; rfl), h.holds (by omega) (by rw [World.cell?_alloc_at _ _ _ _ rfl]; rfl), h.holds (by omega) (by rw [World.cell?_alloc_at _ _ _ _ rfl]; rfl), h.holds (by omega) (by rw [World.cell?_alloc_at _ _ _ _ rfl]; rfl), h.holds (by omega) (by rw [World.cell?_alloc_at _ _ _ _ rfl]; rfl), h.holds (by omega) (by rw [World.cell?_alloc_at _ _ _ _ rfl]; rfl)⟩

theorem _root_.Go.World.ownsRow.dn {w : World} {base : Nat} {e : TypeId} {size : Nat} {v : Value} {m n : Nat} {xs : List Value} (h : w.ownsRow base e size v n xs) : (w.drewN m).ownsRow base e size v n xs := h
theorem Kep.drewN {B : Nat} {a w : World} (h : Kep B a w) (m : Nat) : Kep B a (w.drewN m) := ⟨h.os, h.output, h.size, h.block⟩
theorem rel_next {B k : Nat} {b x : Bd} {gone d d' : Bool} {L s s' : List Bd} {w1 wr' : World} {v' : Value} (hx : L[k]? = some x) (hs : putTo b gone (L.take k) = (s, d)) (he : putStep b (s, d) x = (s', d'))
    (own : wr'.ownsRow (B + 1) 46 10 v' s'.length (flat s')) (kep : Kep (B + 1) w1 wr') : PutRel B b gone L w1 (k + 1) v' d' wr' := by
  have e : putTo b gone (L.take (k + 1)) = (s', d') := by rw [List.take_add_one, hx]; show putTo b gone (L.take k ++ [x]) = _; rw [putTo_snoc, hs, he]
  exact ⟨by rw [e], by rw [e]; exact own, kep⟩

theorem flat_get : ∀ (s : List Bd) (k : Nat) (b : Bd), s[k]? = some b → ∀ i, i < 10 → (flat s)[k * 10 + i]? = (vals b)[i]?
  | [], _, _, h, _, _ => by simp at h
  | x :: s, 0, b, h, i, hi => by
    simp at h
    subst h
    have l : (vals x).length = 10 := rfl
    simp only [flat, List.flatMap_cons]
    rw [List.getElem?_append_left (by rw [l]; omega)]
    simp
  | x :: s, k + 1, b, h, i, hi => by
    have l : (vals x).length = 10 := rfl
    have e := flat_get s k b (by simpa using h) i hi
    simp only [flat, List.flatMap_cons] at e ⊢
    rw [List.getElem?_append_right (by rw [l]; omega), l, show (k + 1) * 10 + i - 10 = k * 10 + i by omega]
    exact e
/-- What the slice v lies in is new. -/
def Roomy (v : Value) : Prop := ∀ b n c, v = .slice b n c → n ≤ c
theorem roomy_nil : Roomy (.slice none 0 0) := fun b n c e => by injection e with _ e1 e2; omega
def New (w : World) (v : Value) (w' : World) : Prop := (∀ g, v.ownBlock = some g → w.heap.size ≤ g ∧ g < w'.heap.size) ∧ Roomy v
theorem new_nil (w w' : World) : New w (.slice none 0 0) w' := ⟨(fun g q => by cases q), roomy_nil⟩
theorem own_new {w w' : World} {v : Value} {n : Nat} {xs : List Value} (h : w'.ownsRow (w.heap.size + 1) 46 10 v n xs) : New w v w' := ⟨fun g q => ⟨by have := (h.lt g q).1; omega, (h.lt g q).2⟩, by
  rcases h.2 with ⟨rfl, _⟩ | ⟨_, _, _, rfl, _, _, hn, _⟩
  · exact roomy_nil
  · intro b n c e; injection e with _ e1 e2; omega⟩
theorem own_lst {w : World} {B : Nat} {v : Value} {s : List Bd} (h : w.ownsRow B 46 10 v s.length (flat s)) : Lst w v s := by
  obtain ⟨_, ⟨rfl, h0⟩ | ⟨g, cap, cur, rfl, _, hg, hn, _, hs, hc⟩⟩ := h
  · exact .inl ⟨List.length_eq_zero_iff.1 h0, none, 0, rfl⟩
  · refine .inr ⟨g, 0, cap, rfl, fun k b hb i hi => ?_⟩
    have hk : k < s.length := (List.getElem?_eq_some_iff.1 hb).1
    rw [← flat_get s k b hb i hi, ← hc]
    simp only [World.cell?, hg]
    rw [List.getElem?_take_of_lt (by omega)]
    simp
theorem put_done {L s : List Bd} {b : Bd} {gone d : Bool} {k : Nat} (hs : putTo b gone (L.take k) = (s, d)) (hk : L.length ≤ k) : put L b gone = if d then s else s ++ [b] := by
  rw [List.take_of_length_le hk] at hs
  unfold put
  rw [hs]

end Go.Proofs.Ytllkokfaodpfiaa
