/-
  Package store: a list of bodies as it lies, the places of its keys, and the same bodies in ascending order. Of no walk.
-/
import Derived.Test.YtfkieieedljodaaStorePut
import Derived.Test.YtfkieieedljodaaStoreRef
import Derived.Test.YtfkieieedljodaaBodySlice
import Derived.Maps.OwnSet
namespace Go.Proofs.Ytfkieieedljodaa
open Go.RowKit Go.Lib Go.Maps

theorem law : Keyed Try.prog 28 := int_keyed Try.underlying28
theorem zeroE (w : World) : (zeroValue 3).run Try.prog w = .ok (.int .i64 0) w := by kernel_rfl

/-- The map Dm has, for each key of the list D, its place. -/
structure Idx (Dm : DataW Unit) (D : List Bd) : Prop where
  size : Maps.size Dm = D.length
  has : ∀ (i : Nat) (b : Bd), D[i]? = some b → Maps.has Dm (.int .u32 b.k) = true ∧ ∀ z, Dm.atKey (.int .u32 b.k) z = .lit (.int .i64 i)
  only : ∀ key, Maps.has Dm (.int .u32 key) = true → ∃ (i : Nat) (b : Bd), D[i]? = some b ∧ b.k = key

theorem ikl (a : Int) : WideAt.IsKeyLit (.int .u32 a) := trivial
theorem kne {a b : Int} (h : a ≠ b) : (Lit.int .u32 a) ≠ (Lit.int .u32 b) := fun e => h (by injection e)
theorem Idx.inj {Dm : DataW Unit} {D : List Bd} (h : Idx Dm D) {i j : Nat} {x y : Bd} (hi : D[i]? = some x) (hj : D[j]? = some y) (e : x.k = y.k) : i = j := by
  have a := (h.has i x hi).2 .nil
  have b := (h.has j y hj).2 .nil
  rw [e, b] at a
  injection a with a
  injection a with _ a
  omega
theorem Idx.nodup {Dm : DataW Unit} {D : List Bd} (h : Idx Dm D) : D.Nodup := by
  refine List.pairwise_iff_getElem.2 fun i j hi hj hij e => ?_
  have := h.inj (List.getElem?_eq_getElem hi) (List.getElem?_eq_getElem hj) (by rw [e])
  omega
theorem Asc.nodup : ∀ {l : List Bd}, Asc l → l.Nodup
  | [], _ => List.nodup_nil
  | x :: l, ⟨h, t⟩ => List.nodup_cons.2 ⟨fun m => by have := h x m; omega, t.nodup⟩
theorem idx_nil : Idx (.map []) [] := ⟨rfl, fun i b h => by simp at h, fun key h => by simp [Maps.has] at h⟩
theorem Idx.look_some {Dm : DataW Unit} {D m : List Bd} (h : Idx Dm D) (hp : D.Perm m) {key : Int} {b : Bd} (e : look m key = some b) : ∃ i : Nat, D[i]? = some b ∧ b.k = key ∧ Maps.has Dm (.int .u32 key) = true ∧ ∀ z, Dm.atKey (.int .u32 key) z = .lit (.int .i64 i) := by
  obtain ⟨hb, rfl⟩ := Go.Proofs.Ytfkieieedljodaa.look_some e
  obtain ⟨i, hi⟩ := List.getElem?_of_mem (hp.mem_iff.2 hb)
  exact ⟨i, hi, rfl, h.has i b hi⟩
theorem Idx.look_none {Dm : DataW Unit} {D m : List Bd} (h : Idx Dm D) (hp : D.Perm m) {key : Int} (e : look m key = none) : Maps.has Dm (.int .u32 key) = false := by
  cases c : Maps.has Dm (.int .u32 key) with
  | false => rfl
  | true =>
    obtain ⟨i, b, hi, hb⟩ := h.only key c
    exact absurd hb (Go.Proofs.Ytfkieieedljodaa.look_none.1 e b (hp.mem_iff.1 (List.mem_of_getElem? hi)))

theorem Idx.add {Dm : DataW Unit} {D : List Bd} (h : Idx Dm D) (ht : Tidy Dm) {b : Bd} (hn : Maps.has Dm (.int .u32 b.k) = false) : Idx (Dm.put (.int .u32 b.k) (.lit (.int .i64 D.length))) (D ++ [b]) := by
  refine ⟨?_, fun i x hi => ?_, fun key hk => ?_⟩
  · rw [size_put ht, hn, h.size]; simp
  · by_cases c : i < D.length
    · rw [List.getElem?_append_left c] at hi
      have g := h.has i x hi
      have hne : x.k ≠ b.k := fun e => by rw [e, hn] at g; cases g.1
      rw [has_put_other (kne hne)]
      exact ⟨g.1, fun z => by rw [atKey_put_other (kne hne)]; exact g.2 z⟩
    · rw [List.getElem?_append_right (by omega)] at hi
      have e : i = D.length := by
        have := (List.getElem?_eq_some_iff.1 hi).1
        simp at this; omega
      subst e
      simp at hi
      subst hi
      exact ⟨has_put_same ht.isMap (ikl _) _, fun z => atKey_put_same ht.isMap (ikl _) _ z⟩
  · by_cases c : key = b.k
    · exact ⟨D.length, b, by simp, c.symm⟩
    · rw [has_put_other (kne c)] at hk
      obtain ⟨i, x, hi, hx⟩ := h.only key hk
      exact ⟨i, x, by rw [List.getElem?_append_left (List.getElem?_eq_some_iff.1 hi).1]; exact hi, hx⟩
theorem Idx.set {Dm : DataW Unit} {D : List Bd} (h : Idx Dm D) {i : Nat} {b b' : Bd} (hi : D[i]? = some b) (e : b'.k = b.k) : Idx Dm (D.set i b') := by
  have hl := (List.getElem?_eq_some_iff.1 hi).1
  refine ⟨by rw [h.size]; simp, fun j x hj => ?_, fun key hk => ?_⟩
  · by_cases c : i = j
    · subst c
      rw [List.getElem?_set_self hl] at hj
      cases hj
      rw [e]; exact h.has i b hi
    · rw [List.getElem?_set_ne c] at hj; exact h.has j x hj
  · obtain ⟨j, x, hj, hx⟩ := h.only key hk
    by_cases c : i = j
    · subst c
      rw [hi] at hj
      cases hj
      exact ⟨i, b', List.getElem?_set_self hl, e.trans hx⟩
    · exact ⟨j, x, by rw [List.getElem?_set_ne c]; exact hj, hx⟩
/-- The last body in the place of body i, which goes. -/
def swap (D : List Bd) (i : Nat) (z : Bd) : List Bd := (D.set i z).take (D.length - 1)
theorem swap_len (D : List Bd) (i : Nat) (z : Bd) : (swap D i z).length = D.length - 1 := by simp [swap]
theorem swap_get {D : List Bd} {i j : Nat} {z : Bd} (hi : i < D.length) (hj : j < D.length - 1) : (swap D i z)[j]? = if j = i then some z else D[j]? := by
  unfold swap
  rw [List.getElem?_take_of_lt hj]
  by_cases c : j = i
  · subst c; rw [if_pos rfl, List.getElem?_set_self hi]
  · rw [if_neg c, List.getElem?_set_ne (fun e => c e.symm)]
theorem swap_lt {D : List Bd} {i j : Nat} {z x : Bd} (h : (swap D i z)[j]? = some x) : j < D.length - 1 := by
  have := (List.getElem?_eq_some_iff.1 h).1
  rw [swap_len] at this; exact this
theorem Idx.swap {Dm : DataW Unit} {D : List Bd} (h : Idx Dm D) (ht : Tidy Dm) {i : Nat} {b z : Bd} (hi : D[i]? = some b) (hz : D[D.length - 1]? = some z) : Idx ((Dm.put (.int .u32 z.k) (.lit (.int .i64 i))).del (.int .u32 b.k)) (swap D i z) := by
  have hl := (List.getElem?_eq_some_iff.1 hi).1
  have hzh := (h.has _ z hz).1
  have hbh := (h.has _ b hi).1
  have ht' : Tidy (Dm.put (.int .u32 z.k) (.lit (.int .i64 i))) := ht.put (ikl _) _
  refine ⟨?_, fun j x hj => ?_, fun key hk => ?_⟩
  · have s1 := size_put (k := .int .u32 z.k) ht (.lit (.int .i64 i))
    have s2 := size_del (k := .int .u32 b.k) ht'
    have hb' : Maps.has (Dm.put (.int .u32 z.k) (.lit (.int .i64 i))) (.int .u32 b.k) = true := by
      by_cases c : b.k = z.k
      · rw [c]; exact has_put_same ht.isMap (ikl _) _
      · rw [has_put_other (kne c)]; exact hbh
    rw [hzh] at s1
    rw [hb', s1, h.size] at s2
    simp at s2
    rw [swap_len]; omega
  · have hj' := swap_lt hj
    rw [swap_get hl hj'] at hj
    by_cases c : j = i
    · subst c
      rw [if_pos rfl] at hj
      cases hj
      have hne : z.k ≠ b.k := fun e => by have := h.inj hz hi e; omega
      rw [has_del_other (kne hne)]
      exact ⟨has_put_same ht.isMap (ikl _) _, fun q => by rw [atKey_del_other (kne hne)]; exact atKey_put_same ht.isMap (ikl _) _ q⟩
    · rw [if_neg c] at hj
      have n1 : x.k ≠ b.k := fun e => c (h.inj hj hi e)
      have n2 : x.k ≠ z.k := fun e => by have := h.inj hj hz e; omega
      rw [has_del_other (kne n1), has_put_other (kne n2)]
      exact ⟨(h.has j x hj).1, fun q => by rw [atKey_del_other (kne n1), atKey_put_other (kne n2)]; exact (h.has j x hj).2 q⟩
  · have n1 : key ≠ b.k := fun e => by rw [e, has_del_same] at hk; cases hk
    rw [has_del_other (kne n1)] at hk
    have hpos : Maps.has Dm (.int .u32 key) = true := by
      by_cases c : key = z.k
      · rw [c]; exact hzh
      · rw [has_put_other (kne c)] at hk; exact hk
    obtain ⟨j, x, hj, hx⟩ := h.only key hpos
    have hji : j ≠ i := fun e => by subst e; rw [hi] at hj; cases hj; exact n1 hx.symm
    have hjl := (List.getElem?_eq_some_iff.1 hj).1
    by_cases c : j = D.length - 1
    · subst c
      rw [hz] at hj
      cases hj
      exact ⟨i, z, by rw [swap_get hl (by omega), if_pos rfl], hx⟩
    · exact ⟨j, x, by rw [swap_get hl (by omega), if_neg hji]; exact hj, hx⟩

theorem perm_of {Dm : DataW Unit} {D m : List Bd} (h : Idx Dm D) (hm : Asc m) (hx : ∀ x, x ∈ D ↔ x ∈ m) : D.Perm m := (List.perm_ext_iff_of_nodup h.nodup hm.nodup).2 hx
theorem add_perm {Dm : DataW Unit} {D m : List Bd} {b : Bd} (h : Idx Dm (D ++ [b])) (hp : D.Perm m) (hm : Asc m) (hn : look m b.k = none) : (D ++ [b]).Perm (put m b false) :=
  perm_of h (put_asc hm b false) fun x => by
    rw [mem_put hm, ← hp.mem_iff]
    simp only [List.mem_append, List.mem_singleton]
    constructor
    · rintro (hx | rfl)
      · exact .inr ⟨hx, Go.Proofs.Ytfkieieedljodaa.look_none.1 hn x (hp.mem_iff.1 hx)⟩
      · exact .inl rfl
    · rintro (rfl | ⟨hx, _⟩)
      · exact .inr rfl
      · exact .inl hx
theorem set_perm {Dm : DataW Unit} {D m : List Bd} {b b' : Bd} {i : Nat} (h0 : Idx Dm D) (h : Idx Dm (D.set i b')) (hp : D.Perm m) (hm : Asc m) (hi : D[i]? = some b) (e : b'.k = b.k) : (D.set i b').Perm (put m b' false) := by
  have hl := (List.getElem?_eq_some_iff.1 hi).1
  refine perm_of h (put_asc hm b' false) fun x => ?_
  rw [mem_put hm, ← hp.mem_iff]
  constructor
  · intro hx
    obtain ⟨j, hj⟩ := List.getElem?_of_mem hx
    by_cases c : i = j
    · subst c; rw [List.getElem?_set_self hl] at hj; cases hj; exact .inl rfl
    · rw [List.getElem?_set_ne c] at hj
      exact .inr ⟨List.mem_of_getElem? hj, fun q => c (h0.inj hi hj (by rw [q, e]))⟩
  · rintro (rfl | ⟨hx, n⟩)
    · exact List.mem_of_getElem? (List.getElem?_set_self hl)
    · obtain ⟨j, hj⟩ := List.getElem?_of_mem hx
      have c : i ≠ j := fun c => by subst c; rw [hi] at hj; cases hj; exact n e.symm
      exact List.mem_of_getElem? (i := j) (by rw [List.getElem?_set_ne c]; exact hj)
theorem swap_perm {Dm Dm' : DataW Unit} {D m : List Bd} {b z : Bd} {i : Nat} (h0 : Idx Dm D) (h : Idx Dm' (swap D i z)) (hp : D.Perm m) (hm : Asc m) (hi : D[i]? = some b) (hz : D[D.length - 1]? = some z) : (swap D i z).Perm (put m (bare b.k) true) := by
  have hl := (List.getElem?_eq_some_iff.1 hi).1
  refine perm_of h (put_asc hm _ true) fun x => ?_
  rw [mem_gone, ← hp.mem_iff]
  show _ ↔ x ∈ D ∧ x.k ≠ b.k
  constructor
  · intro hx
    obtain ⟨j, hj⟩ := List.getElem?_of_mem hx
    have hj' := swap_lt hj
    rw [swap_get hl hj'] at hj
    by_cases c : j = i
    · rw [if_pos c] at hj; cases hj
      exact ⟨List.mem_of_getElem? hz, fun e => by have := h0.inj hz hi e; omega⟩
    · rw [if_neg c] at hj
      exact ⟨List.mem_of_getElem? hj, fun e => c (h0.inj hj hi e)⟩
  · rintro ⟨hx, n⟩
    obtain ⟨j, hj⟩ := List.getElem?_of_mem hx
    have hjl := (List.getElem?_eq_some_iff.1 hj).1
    have c : j ≠ i := fun c => by subst c; rw [hi] at hj; cases hj; exact n rfl
    by_cases q : j = D.length - 1
    · subst q
      rw [hz] at hj; cases hj
      exact List.mem_of_getElem? (i := i) (by rw [swap_get hl (by omega), if_pos rfl])
    · exact List.mem_of_getElem? (i := j) (by rw [swap_get hl (by omega), if_neg c]; exact hj)

/-- Ten cells written. -/
def sets (xs : List Value) (p : Nat) (b : Bd) : List Value := (((((((((xs.set p (.int .u32 b.k)).set (p + 1) (.int .i32 b.r)).set (p + 2) (.int .i32 b.ax)).set (p + 3) (.int .i32 b.ay)).set (p + 4) (.int .i32 b.m)).set (p + 5) (.int .i32 b.o)).set (p + 6) (.int .i32 b.px)).set (p + 7) (.int .i32 b.py)).set (p + 8) (.int .i32 b.vx)).set (p + 9) (.int .i32 b.vy)
theorem set_past (a l : List Value) (p q : Nat) (v : Value) (h : p = a.length + q) : (a ++ l).set p v = a ++ l.set q v := by
  subst h
  rw [List.set_append_right _ _ (by omega)]
  congr 2; omega
theorem flat_set : ∀ (D : List Bd) (i : Nat) (b : Bd), i < D.length → flat (D.set i b) = sets (flat D) (i * 10) b
  | [], _, _, h => by simp at h
  | x :: l, 0, b, _ => by simp [flat, sets, vals]
  | x :: l, i + 1, b, h => by
    have e := flat_set l i b (by simpa using h)
    have lx : (vals x).length = 10 := rfl
    have f : ∀ y (l : List Bd), flat (y :: l) = vals y ++ flat l := fun y l => by simp [flat]
    rw [List.set_cons_succ, f, e, f]
    unfold sets
    have o : ∀ (l : List Value) (k : Nat) (v : Value), (vals x ++ l).set ((i + 1) * 10 + k) v = vals x ++ l.set (i * 10 + k) v := fun l k v => set_past _ _ _ _ v (by rw [lx]; omega)
    have o0 : ∀ (l : List Value) (v : Value), (vals x ++ l).set ((i + 1) * 10) v = vals x ++ l.set (i * 10) v := fun l v => set_past _ _ _ _ v (by rw [lx]; omega)
    rw [o0, o, o, o, o, o, o, o, o, o]
theorem flat_take : ∀ (D : List Bd) (n : Nat), flat (D.take n) = (flat D).take (n * 10)
  | [], n => by simp [flat]
  | x :: l, 0 => by simp [flat]
  | x :: l, n + 1 => by
    have lx : (vals x).length = 10 := rfl
    have f : ∀ y (l : List Bd), flat (y :: l) = vals y ++ flat l := fun y l => by simp [flat]
    rw [List.take_succ_cons, f, f, flat_take l n, show (n + 1) * 10 = (vals x).length + n * 10 by rw [lx]; omega, List.take_length_add_append]
theorem own_cut {w : World} {g n k cap : Nat} {xs : List Value} (h : w.ownsRow 0 32 10 (.slice (some ⟨g, 0, none⟩) n cap) n xs) (hk : k ≤ n) : w.ownsRow 0 32 10 (.slice (some ⟨g, 0, none⟩) k cap) k (xs.take (k * 10)) := by
  obtain ⟨h1, h2⟩ := h
  refine ⟨by simp [h1]; omega, ?_⟩
  rcases h2 with ⟨h', _⟩ | ⟨g', cap', cur, h', hb, hg, hnc, hcm, hcs, htake⟩
  · simp at h'
  · simp only [Value.slice.injEq, Option.some.injEq, Addr.mk.injEq, and_true, true_and] at h'
    obtain ⟨rfl, rfl⟩ := h'
    exact .inr ⟨g, cap, cur, rfl, hb, hg, by omega, hcm, hcs, by rw [← htake, List.take_take, Nat.min_eq_left (by omega)]⟩
/-- Ten cells stored. -/
def setb (w : World) (g p : Nat) (b : Bd) : World := (((((((((w.setCell ⟨g, p, none⟩ (.int .u32 b.k)).setCell ⟨g, p + 1, none⟩ (.int .i32 b.r)).setCell ⟨g, p + 2, none⟩ (.int .i32 b.ax)).setCell ⟨g, p + 3, none⟩ (.int .i32 b.ay)).setCell ⟨g, p + 4, none⟩ (.int .i32 b.m)).setCell ⟨g, p + 5, none⟩ (.int .i32 b.o)).setCell ⟨g, p + 6, none⟩ (.int .i32 b.px)).setCell ⟨g, p + 7, none⟩ (.int .i32 b.py)).setCell ⟨g, p + 8, none⟩ (.int .i32 b.vx)).setCell ⟨g, p + 9, none⟩ (.int .i32 b.vy)
theorem own_setb {w : World} {g n cap p : Nat} {xs : List Value} (b : Bd) (h : w.ownsRow 0 32 10 (.slice (some ⟨g, 0, none⟩) n cap) n xs) : (setb w g p b).ownsRow 0 32 10 (.slice (some ⟨g, 0, none⟩) n cap) n (sets xs p b) := by
  unfold setb sets
  iterate 9 refine (World.ownsRow.stored ?_ _ _).1
  exact (World.ownsRow.stored h _ _).1
theorem grown_setb (w : World) (g p : Nat) (b : Bd) : w.grownBy (setb w g p b) (some g) := by
  have s : ∀ (w : World) (q : Nat) (u : Value), w.grownBy (w.setCell ⟨g, q, none⟩ u) (some g) := fun w q u => ⟨rfl, rfl, rfl, by simp, fun k _ hk => heap_setCell_other w ⟨g, q, none⟩ k u (fun e => hk (by simp [e]))⟩
  have t : ∀ {a b c : World}, a.grownBy b (some g) → b.grownBy c (some g) → a.grownBy c (some g) := fun h k => ⟨k.os.trans h.os, k.tape.trans h.tape, k.output.trans h.output, Nat.le_trans h.size k.size, fun i hi hn => (k.block i (Nat.lt_of_lt_of_le hi h.size) hn).trans (h.block i hi hn)⟩
  unfold setb
  exact t (t (t (t (t (t (t (t (t (s _ _ _) (s _ _ _)) (s _ _ _)) (s _ _ _)) (s _ _ _)) (s _ _ _)) (s _ _ _)) (s _ _ _)) (s _ _ _)) (s _ _ _)
end Go.Proofs.Ytfkieieedljodaa
