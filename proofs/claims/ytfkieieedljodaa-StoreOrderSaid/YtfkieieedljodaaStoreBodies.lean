/-
  Package store: Bodies.
-/
import Derived.Test.YtfkieieedljodaaStoreSort
import Derived.Test.YtfkieieedljodaaStoreClone
namespace Go.Proofs.Ytfkieieedljodaa
open Go.RowKit Go.Lib Go.Shelf Go.Sort

theorem flatK_get (D : List Bd) (t : Nat) (h : t < D.length * 10) : (flatK vals 10 D.toArray)[t]! = ((flat D)[t]?).getD default := by
  rw [get_flatK _ _ _ t (by simpa using h)]
  have hk : t / 10 < D.length := by omega
  have e := flat_get D (t / 10) _ (List.getElem?_eq_getElem hk) (t % 10) (by omega)
  rw [show t / 10 * 10 + t % 10 = t by omega] at e
  rw [e]
  have a : D.toArray[t / 10]! = D[t / 10] := by rw [getElem!_pos D.toArray (t / 10) (by simpa using hk)]; simp
  rw [a]
  have l : t % 10 < (vals D[t / 10]).length := by show t % 10 < 10; omega
  rw [List.getElem?_eq_getElem l, getElem!_pos (vals D[t / 10]) (t % 10) l]
  rfl
theorem holds_of {w : World} {g cap : Nat} {D : List Bd} (h : w.ownsRow 0 32 10 (.slice (some ⟨g, 0, none⟩) D.length cap) D.length (flat D)) : HoldsK vals 10 w g 0 D.toArray := by
  intro j hj
  have hj' : j < D.length * 10 := by simpa using hj
  rw [Nat.zero_add]
  refine ⟨?_, h.frozenAt j⟩
  rw [h.cellAt j hj', flatK_get D j hj']
  have l : j < (flat D).length := by rw [h.1]; exact hj'
  rw [List.getElem?_eq_getElem l]
  rfl
/-- A slice that reads as a list, in a block that the world B had not, whose cells may be written. -/
def Own (w : World) (B : Nat) (v : Value) (L : List Bd) : Prop := Lst w v L ∧ ∀ g, v.ownBlock = some g → B ≤ g ∧ g < w.heap.size ∧ ∀ j, w.frozen? ⟨g, j, none⟩ = false
theorem size_sortW {w : World} {blk n : Nat} {d : Array Bd} {os : Array Obj} : w.heap.size ≤ (sortWorldK vals 10 w blk 0 n d os).heap.size := by
  unfold sortWorldK putRowK
  rw [size_grow, size_putRow]
  simp
theorem kep_sortW {w : World} {blk n : Nat} {d : Array Bd} {os : Array Obj} (hb : blk < w.heap.size) : Kep blk w (sortWorldK vals 10 w blk 0 n d os) := by
  refine ⟨rfl, rfl, size_sortW, fun k hk => ?_⟩
  unfold sortWorldK putRowK putRow
  rw [heap_grow_old _ _ (by simp [mapBlock]; omega)]
  simp only [mapBlock, heap_ahead]
  rw [Array.getElem?_modify, if_neg (by omega)]
theorem cell_sortW {w : World} {blk n : Nat} {d d0 : Array Bd} {os : Array Obj} (hb : blk < w.heap.size) (h0 : HoldsK vals 10 w blk 0 d0) (hs : d.size = d0.size) {j : Nat} (hj : j < d.size * 10) :
    (sortWorldK vals 10 w blk 0 n d os).cell? ⟨blk, j, none⟩ = some (flatK vals 10 d)[j]! := by
  unfold sortWorldK
  rw [cell?_grow _ _ _ (by unfold putRowK; rw [size_putRow]; simpa using hb)]
  have e := cell?_putRow id (Go.Sort.ahead w n) blk 0 (flatK vals 10 d0) (flatK vals 10 d) (Go.Sort.holds_ahead id w n blk 0 _ h0) (by simp [hs]) j (by simpa using hj)
  rw [Nat.zero_add] at e
  exact e
theorem frozen_sortW {w : World} {blk n : Nat} {d : Array Bd} {os : Array Obj} (hb : blk < w.heap.size) (j : Nat) : (sortWorldK vals 10 w blk 0 n d os).frozen? ⟨blk, j, none⟩ = w.frozen? ⟨blk, j, none⟩ := by
  unfold sortWorldK
  rw [frozen?_grow _ _ _ (by unfold putRowK; rw [size_putRow]; simpa using hb)]
  exact frozen?_putRow _ _ _ _ _ _
/-- In order, with no key twice: ascending. -/
theorem asc_of : ∀ {l : List Bd}, l.Pairwise (fun x y => x.k < y.k) → Asc l
  | [], _ => trivial
  | x :: l, h => by
    obtain ⟨h1, h2⟩ := List.pairwise_cons.1 h
    exact ⟨h1, asc_of h2⟩
theorem sorted_is {D m : List Bd} {d' : Array Bd} (hp : D.Perm m) (hm : Asc m) (h1 : PermIn 0 D.toArray.size D.toArray d') (h2 : SortedIn (ltOf byKey) 0 D.toArray.size d') : d'.toList = m := by
  obtain ⟨hs, _, hpe⟩ := h1
  rw [Array.extract_eq_self_of_le (Nat.le_of_eq hs), Array.extract_eq_self_of_le (Nat.le_refl _)] at hpe
  have hpm : d'.toList.Perm m := hpe.trans (by simpa using hp)
  have hnd : d'.toList.Nodup := hpm.nodup_iff.2 hm.nodup
  have hlen : d'.toList.length = D.toArray.size := by simpa using hs
  have ha : Asc d'.toList := asc_of (by
    refine List.pairwise_iff_getElem.2 fun i j hi hj hij => ?_
    have q := h2 i j (Nat.zero_le _) hij (by rw [← hlen]; exact hj)
    have gi : d'[i]! = d'.toList[i] := by rw [getElem!_pos d' i (by simpa using hi)]; simp
    have gj : d'[j]! = d'.toList[j] := by rw [getElem!_pos d' j (by simpa using hj)]; simp
    rw [ltKey, gi, gj] at q
    have q' : ¬ d'.toList[j].k < d'.toList[i].k := of_decide_eq_false q
    rcases Int.lt_or_eq_of_le (Int.not_lt.1 q') with c | c
    · exact c
    · exfalso
      have mi := hpm.mem_iff.1 (List.getElem_mem hi)
      have mj := hpm.mem_iff.1 (List.getElem_mem hj)
      have e1 := look_mem hm.once mi
      have e2 := look_mem hm.once mj
      rw [c, e2] at e1
      injection e1 with e1
      have := List.pairwise_iff_getElem.1 hnd i j hi hj hij
      exact this e1.symm)
  exact asc_ext ha hm fun key => look_perm ha.once hm.once (fun x => hpm.mem_iff) key
theorem sort_any {w : World} {B : Nat} {v : Value} {D m : List Bd} (h : w.ownsRow B 32 10 v D.length (flat D)) (hn : D.length ≤ 4096) (hp : D.Perm m) (hm : Asc m) :
    Calls Try.prog 27 #[v, .func (.func 28) #[] #[]] w fun e w' => e = .returned (.tuple #[]) ∧ Own w' B v m ∧ Kep B w w' := by
  rcases h.2 with ⟨rfl, h0⟩ | ⟨g, cap, cur, rfl, hB, hg, hc, _⟩
  · obtain rfl := List.length_eq_zero_iff.1 h0
    have e : m = [] := List.perm_nil.1 hp.symm
    subst e
    exact (sort_none none 0 _ w).mono fun e w' ⟨h1, h2⟩ => ⟨h1, ⟨.inl ⟨rfl, none, 0, rfl⟩, fun g q => by cases q⟩, h2 ▸ Kep.refl _ _⟩
  · have hlt : g < w.heap.size := (Array.getElem?_eq_some_iff.1 hg).1
    have h' : w.ownsRow 0 32 10 (.slice (some ⟨g, 0, none⟩) D.length cap) D.length (flat D) := ⟨h.1, .inr ⟨g, cap, cur, rfl, Nat.zero_le _, hg, hc, by assumption⟩⟩
    have eg : ∀ args w, (callFunc 28 args).run Try.prog w = .ok (.enter 28 args) w := enters_of Try.func28 (by kernel_rfl) rfl
    have hcon := AnyQ.slices_SortFunc sortB 10 Try.isAgg32 Try.sizeOf32 vals (fun _ => rfl) (fun x u hu => one_cell x u hu) byKey swoKey 28 #[] g 0 cap D.toArray w eg (fun _ _ _ _ x y => closure_any x y _) (holds_of h') hlt (by simp; omega)
    change Calls Try.prog 27 _ _ _ at hcon
    rw [show D.toArray.size = D.length by simp] at hcon
    refine hcon.mono fun e w' ⟨h1, d', n, os, hpe, hso, hw⟩ => ⟨h1, ?_, ?_⟩
    · have hd : d'.toList = m := sorted_is hp hm (by simpa using hpe) (by simpa using hso)
      have hs : d'.size = D.toArray.size := by simpa using hpe.1
      have hlen : m.length = D.length := hp.length_eq.symm
      subst hw
      refine ⟨.inr ⟨g, 0, cap, by rw [hlen], fun k b hb i hi => ?_⟩, fun q e => ?_⟩
      · have hk : k < m.length := (List.getElem?_eq_some_iff.1 hb).1
        have hsz : d'.size = m.length := by rw [← hd]; simp
        have e := cell_sortW (n := n) (os := os) hlt (holds_of h') hs (j := 0 + k * 10 + i) (by omega)
        rw [e]
        have hda : d' = m.toArray := by rw [← hd]
        rw [hda, flatK_get m _ (by omega), show 0 + k * 10 + i = k * 10 + i by omega, flat_get m k b hb i hi]
        have l : i < (vals b).length := hi
        rw [List.getElem?_eq_getElem l]
        rfl
      · injection e with e
        subst e
        exact ⟨hB, Nat.lt_of_lt_of_le hlt size_sortW, fun j => by rw [frozen_sortW hlt j]; exact h'.frozenAt j⟩
    · subst hw
      exact (kep_sortW hlt).mono hB
set_option maxRecDepth 100000 in
theorem bodies_any {w : World} {sb : Nat} {S : Nat → Prop} {m : List Bd} (h : StoreIs w sb S m) :
    Calls Try.prog 19 #[.pointer (some ⟨sb, 0, none⟩)] w fun e w' => ∃ v', e = .returned v' ∧ Own w' w.heap.size v' m ∧ Kep w.heap.size w w' := by
  obtain ⟨v, mp, D, h⟩ := h
  have C := Lib.hid (sclone_any w h.own (by rw [h.length]; exact h.len))
  have C2 : Hid (∀ v' w', w'.ownsRow w.heap.size 32 10 v' D.length (flat D) → Calls Try.prog 27 #[v', .func (.func 28) #[] #[]] w' fun e w2 => e = .returned (.tuple #[]) ∧ Own w2 w.heap.size v' m ∧ Kep w.heap.size w' w2) :=
    Lib.hid fun v' w' q => sort_any q (by rw [h.length]; exact h.len) h.perm h.asc
  have c0 := h.c0
  clear h
  go_enter Try.func19, Try.ntmps19
  go_wp2_with (first
    | ((with_reducible refine (C.out).mono ?_); rintro e w1 ⟨v', rfl, o1, k1⟩; replace o1 := Lib.hid o1; replace k1 := Lib.hid k1)
    | ((with_reducible refine (C2.out _ _ o1.out).mono ?_); rintro e w2 ⟨rfl, o2, k2⟩; replace o2 := Lib.hid o2; replace k2 := Lib.hid k2))
  go_ret
  exact ⟨v', rfl, o2.out, k1.out.trans k2.out⟩
end Go.Proofs.Ytfkieieedljodaa
