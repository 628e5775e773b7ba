/-
  Package view: Sort.
-/
import Derived.Test.YtlfbiijillpnnaaStoreSort0
import Derived.Test.YtlfbiijillpnnaaViewOps
import Derived.Test.YtlfbiijillpnnaaViewOnce
import Derived.Test.YtlfbiijillpnnaaViewCheck
import Derived.Shelf.Small.Bits
import Derived.Shelf.SlicesE.Clone
namespace Go.Proofs.Ytlfbiijillpnnaa
open Go.RowKit Go.Lib Go.Shelf Go.Sort

instance : Inhabited Bd := ⟨⟨0, 0, 0, 0, 0, 0, 0, 0, 0, 0⟩⟩

theorem cmp_any (x y : Int) (w : World) : Calls Try.prog 26 #[.int .u32 x, .int .u32 y] w fun e w' => e = .returned (.int .i64 (Lib.compareInt x y)) ∧ w = w' := by
  unfold Lib.compareInt
  by_cases h1 : x < y
  · rw [if_pos h1]
    go_enter Try.func26, Try.ntmps26
    go_wp2
    go_ret
    exact ⟨rfl, rfl⟩
  · rw [if_neg h1]
    by_cases h2 : x > y
    · rw [if_pos h2]
      go_enter Try.func26, Try.ntmps26
      go_wp2
      go_ret
      exact ⟨rfl, rfl⟩
    · rw [if_neg h2]
      go_enter Try.func26, Try.ntmps26
      go_wp2
      go_ret
      exact ⟨rfl, rfl⟩
def byKey (x y : Bd) : Int := Lib.compareInt x.k y.k
theorem closure_any (x y : Bd) (W : World) : Calls Try.prog 25 #[.agg (vals x).toArray, .agg (vals y).toArray] W fun e w' => e = .returned (.int .i64 (byKey x y)) ∧ ∃ q os', w' = grow (W.drewN q) os' := by
  have hcon := Lib.hid (fun W' => cmp_any x.k y.k W')
  show Calls Try.prog _ #[.agg #[.int .u32 x.k, .int .i32 x.r, .int .i32 x.ax, .int .i32 x.ay, .int .i32 x.m, .int .i32 x.o, .int .i32 x.px, .int .i32 x.py, .int .i32 x.vx, .int .i32 x.vy], .agg #[.int .u32 y.k, .int .i32 y.r, .int .i32 y.ax, .int .i32 y.ay, .int .i32 y.m, .int .i32 y.o, .int .i32 y.px, .int .i32 y.py, .int .i32 y.vx, .int .i32 y.vy]] W _
  unfold byKey
  generalize Lib.compareInt x.k y.k = r at hcon ⊢
  go_enter Try.func25, Try.ntmps25
  go_wp2_with ((with_reducible refine (hcon.out _).mono ?_); rintro e w' ⟨rfl, rfl⟩)
  go_ret
  exact ⟨rfl, 0, _, by rw [alloc_eq_grow, alloc_eq_grow, grow_grow]; rfl⟩
theorem ltKey (x y : Bd) : ltOf byKey x y = decide (x.k < y.k) := by
  unfold ltOf byKey Lib.compareInt
  by_cases h1 : x.k < y.k
  · simp [h1]
  · by_cases h2 : y.k < x.k <;> simp [h1, h2]
theorem swoKey : SWO (ltOf byKey) where
  irrefl x := by rw [ltKey]; simp
  trans x y z h1 h2 := by rw [ltKey] at *; simp at *; omega
  ntrans x y z h1 h2 := by rw [ltKey] at *; simp at *; omega
theorem insert_none (p : Option Addr) (cap : Nat) (fv : Value) (w : World) : Calls Try.prog 47 #[.slice p 0 cap, .int .i64 0, .int .i64 0, fv] w fun e w' => e = .returned (.tuple #[]) ∧ w = w' := by
  go_enter Try.func47, Try.ntmps47
  go_wp2
  refine wp_loop_rounds 1 ?_
  rw [rounds_succ]
  go_wp2
  go_end0
  exact ⟨rfl, rfl⟩
theorem pdq_none (p : Option Addr) (cap : Nat) (lim : Int) (fv : Value) (w : World) : Calls Try.prog 39 #[.slice p 0 cap, .int .i64 0, .int .i64 0, .int .i64 lim, fv] w fun e w' => e = .returned (.tuple #[]) ∧ w = w' := by
  have hi := Lib.hid (fun W => insert_none p cap fv W)
  go_enter Try.func39, Try.ntmps39
  go_wp2
  refine wp_loop_rounds 1 ?_
  rw [rounds_succ]
  go_wp2_with ((with_reducible refine (hi.out _).mono ?_); rintro e w' ⟨rfl, rfl⟩)
  (try simp only [Exit.inBlock, Exit.then]); refine bodyPost_ret (results_none rfl _ _ _) rfl ?_
  exact ⟨rfl, rfl⟩
theorem sort_none (p : Option Addr) (cap : Nat) (fv : Value) (w : World) : Calls Try.prog 24 #[.slice p 0 cap, fv] w fun e w' => e = .returned (.tuple #[]) ∧ w = w' := by
  have hp := Lib.hid (fun lim W => pdq_none p cap lim fv W)
  have hl : Hid (∀ W, Calls Try.prog 40 #[.int .u64 0] W fun e w' => e = .returned (.int .i64 (Lib.bitLen 0 : Nat)) ∧ w' = W) := Lib.hid fun W => by
    have h := Any.bits_Len (SlLaysF0.n15.bits (P := Try.prog) (ρ := sortB_ren) { sortB with }) 0 W (by omega) (by omega)
    exact h
  go_enter Try.func24, Try.ntmps24
  go_wp2_with (first | ((with_reducible refine (hl.out _).mono ?_); rintro e w' ⟨rfl, rfl⟩) | ((with_reducible refine (hp.out _ _).mono ?_); rintro e w' ⟨rfl, rfl⟩))
  go_end0
  exact ⟨rfl, rfl⟩

theorem flatK_get (D : List Bd) (t : Nat) (h : t < D.length * 10) : (flatK vals 10 D.toArray)[t]! = ((flat D)[t]?).getD default := by
  rw [get_flatK _ _ _ t (by simpa using h)]
  have hk : t / 10 < D.length := by omega
  have e := flat_get D (t / 10) _ (List.getElem?_eq_getElem hk) (t % 10) (by omega)
  rw [show t / 10 * 10 + t % 10 = t by omega] at e
  rw [e]
  have a : D.toArray[t / 10]! = D[t / 10] := by rw [getElem!_pos D.toArray (t / 10) (by simpa using hk)]; simp
  rw [a]
  have l : t % 10 < (vals D[t / 10]).length := by show t % 10 < 10; omega
  rw [List.getElem?_eq_getElem l, getElem!_pos (vals D[t / 10]) (t % 10) l]
  rfl
theorem holds_of {w : World} {g cap : Nat} {D : List Bd} (h : w.ownsRow 0 38 10 (.slice (some ⟨g, 0, none⟩) D.length cap) D.length (flat D)) : HoldsK vals 10 w g 0 D.toArray := by
  intro j hj
  have hj' : j < D.length * 10 := by simpa using hj
  rw [Nat.zero_add]
  refine ⟨?_, h.frozenAt j⟩
  rw [h.cellAt j hj', flatK_get D j hj']
  have l : j < (flat D).length := by rw [h.1]; exact hj'
  rw [List.getElem?_eq_getElem l]
  rfl
theorem size_sortW {w : World} {blk n : Nat} {d : Array Bd} {os : Array Obj} : w.heap.size ≤ (sortWorldK vals 10 w blk 0 n d os).heap.size := by
  unfold sortWorldK putRowK
  rw [size_grow, size_putRow]
  simp
theorem kep_sortW {w : World} {blk n : Nat} {d : Array Bd} {os : Array Obj} (hb : blk < w.heap.size) : Kep blk w (sortWorldK vals 10 w blk 0 n d os) := by
  refine ⟨rfl, rfl, size_sortW, fun k hk => ?_⟩
  unfold sortWorldK putRowK putRow
  rw [heap_grow_old _ _ (by simp [mapBlock]; omega)]
  simp only [mapBlock, heap_ahead]
  rw [Array.getElem?_modify, if_neg (by omega)]
theorem cell_sortW {w : World} {blk n : Nat} {d d0 : Array Bd} {os : Array Obj} (hb : blk < w.heap.size) (h0 : HoldsK vals 10 w blk 0 d0) (hs : d.size = d0.size) {j : Nat} (hj : j < d.size * 10) :
    (sortWorldK vals 10 w blk 0 n d os).cell? ⟨blk, j, none⟩ = some (flatK vals 10 d)[j]! := by
  unfold sortWorldK
  rw [cell?_grow _ _ _ (by unfold putRowK; rw [size_putRow]; simpa using hb)]
  have e := cell?_putRow id (Go.Sort.ahead w n) blk 0 (flatK vals 10 d0) (flatK vals 10 d) (Go.Sort.holds_ahead id w n blk 0 _ h0) (by simp [hs]) j (by simpa using hj)
  rw [Nat.zero_add] at e
  exact e
theorem frozen_sortW {w : World} {blk n : Nat} {d : Array Bd} {os : Array Obj} (hb : blk < w.heap.size) (j : Nat) : (sortWorldK vals 10 w blk 0 n d os).frozen? ⟨blk, j, none⟩ = w.frozen? ⟨blk, j, none⟩ := by
  unfold sortWorldK
  rw [frozen?_grow _ _ _ (by unfold putRowK; rw [size_putRow]; simpa using hb)]
  exact frozen?_putRow _ _ _ _ _ _
theorem le_of_sorted {d' : Array Bd} {n : Nat} (hn : d'.size = n) (h2 : SortedIn (ltOf byKey) 0 n d') : d'.toList.Pairwise fun x y => x.k ≤ y.k := by
  refine List.pairwise_iff_getElem.2 fun i j hi hj hij => ?_
  have hj' : j < d'.size := by simpa using hj
  have q := h2 i j (Nat.zero_le _) hij (by omega)
  have gi : d'[i]! = d'.toList[i] := by rw [getElem!_pos d' i (by simpa using hi)]; simp
  have gj : d'[j]! = d'.toList[j] := by rw [getElem!_pos d' j (by simpa using hj)]; simp
  rw [ltKey, gi, gj] at q
  exact Int.not_lt.1 (of_decide_eq_false q)
theorem perm_of {D : List Bd} {d' : Array Bd} (h1 : PermIn 0 D.toArray.size D.toArray d') : D.Perm d'.toList := by
  obtain ⟨hs, _, hpe⟩ := h1
  rw [Array.extract_eq_self_of_le (Nat.le_of_eq hs), Array.extract_eq_self_of_le (Nat.le_refl _)] at hpe
  simpa using hpe.symm
theorem psortf_any {w : World} {B : Nat} {v : Value} {D : List Bd} (h : w.ownsRow B 38 10 v D.length (flat D)) (hn : D.length ≤ 4096) :
    Calls Try.prog 24 #[v, .func (.func 25) #[] #[]] w fun e w' => e = .returned (.tuple #[]) ∧ (∃ m, D.Perm m ∧ (m.Pairwise fun x y => x.k ≤ y.k) ∧ Mine w' B v m) ∧ Kep B w w' := by
  rcases h.2 with ⟨rfl, h0⟩ | ⟨g, cap, cur, rfl, hB, hg, hc, _⟩
  · obtain rfl := List.length_eq_zero_iff.1 h0
    exact (sort_none none 0 _ w).mono fun e w' ⟨h1, h2⟩ => ⟨h1, ⟨[], List.Perm.refl _, List.Pairwise.nil, .inl ⟨rfl, none, 0, rfl⟩, fun g q => by cases q⟩, h2 ▸ Kep.refl _ _⟩
  · have hlt : g < w.heap.size := (Array.getElem?_eq_some_iff.1 hg).1
    have h' : w.ownsRow 0 38 10 (.slice (some ⟨g, 0, none⟩) D.length cap) D.length (flat D) := ⟨h.1, .inr ⟨g, cap, cur, rfl, Nat.zero_le _, hg, hc, by assumption⟩⟩
    have eg : ∀ args w, (callFunc 25 args).run Try.prog w = .ok (.enter 25 args) w := enters_of Try.func25 (by kernel_rfl) rfl
    have hcon := AnyQ.slices_SortFunc sortB 10 Try.isAgg38 Try.sizeOf38 vals (fun _ => rfl) (fun x u hu => one_cell x u hu) byKey swoKey 25 #[] g 0 cap D.toArray w eg (fun _ _ _ _ x y => closure_any x y _) (holds_of h') hlt (by simp; omega)
    change Calls Try.prog 24 _ _ _ at hcon
    rw [show D.toArray.size = D.length by simp] at hcon
    refine hcon.mono fun e w' ⟨h1, d', n, os, hpe, hso, hw⟩ => ⟨h1, ?_, ?_⟩
    · have hs : d'.size = D.toArray.size := by simpa using hpe.1
      have hp : D.Perm d'.toList := perm_of (by simpa using hpe)
      refine ⟨d'.toList, hp, le_of_sorted (by simpa using hs) hso, ?_⟩
      obtain ⟨m, hm⟩ : ∃ m, m = d'.toList := ⟨_, rfl⟩
      rw [← hm] at hp ⊢
      have hlen : m.length = D.length := hp.length_eq.symm
      subst hw
      refine ⟨.inr ⟨g, 0, cap, by rw [hlen], fun k b hb i hi => ?_⟩, fun q e => ?_⟩
      · have hk : k < m.length := (List.getElem?_eq_some_iff.1 hb).1
        have hsz : d'.size = m.length := by rw [hm]; simp
        have e := cell_sortW (n := n) (os := os) hlt (holds_of h') hs (j := 0 + k * 10 + i) (by omega)
        rw [e]
        have hda : d' = m.toArray := by rw [hm]
        rw [hda, flatK_get m _ (by omega), show 0 + k * 10 + i = k * 10 + i by omega, flat_get m k b hb i hi]
        have l : i < (vals b).length := hi
        rw [List.getElem?_eq_getElem l]
        rfl
      · injection e with e
        subst e
        exact ⟨hB, Nat.lt_of_lt_of_le hlt size_sortW, fun j => by rw [frozen_sortW hlt j]; exact h'.frozenAt j⟩
    · subst hw
      exact (kep_sortW hlt).mono hB
theorem flat_one : ∀ (D : List Bd), ∀ u ∈ flat D, u.oneCell' = true := fun D u hu => by
  obtain ⟨b, _, hb⟩ := List.mem_flatMap.1 hu
  exact one_cell b u hb
theorem add_off (g off j : Nat) : (⟨g, off, none⟩ : Addr).add j = ⟨g, off + j, none⟩ := by unfold Addr.add; split <;> simp_all
theorem flat_len : ∀ (D : List Bd), (flat D).length = D.length * 10
  | [] => rfl
  | x :: D => by
    have := flat_len D
    have l : (vals x).length = 10 := rfl
    simp only [flat, List.flatMap_cons, List.length_append, l, List.length_cons] at this ⊢
    omega
/-- The cells of a list in memory. -/
theorem lst_cells {w : World} {a : Addr} {n cap : Nat} {D : List Bd} (h : Lst w (.slice (some a) n cap) D) : ∀ j u, (flat D)[j]? = some u → w.cell? (a.add j) = some u := fun j u hu => by
  rcases h with ⟨rfl, _⟩ | ⟨g, off, c, e, hc⟩
  · simp [flat] at hu
  · injection e with e1 e2 e3
    injection e1 with e1
    subst e1
    have hj : j < (flat D).length := (List.getElem?_eq_some_iff.1 hu).1
    rw [flat_len] at hj
    have hk : D[j / 10]? = some (D[j / 10]'(by omega)) := List.getElem?_eq_getElem _
    have f := flat_get D (j / 10) _ hk (j % 10) (by omega)
    rw [show j / 10 * 10 + j % 10 = j by omega, hu] at f
    have := hc (j / 10) _ hk (j % 10) (by omega)
    rw [← f] at this
    rw [add_off, show off + j = off + j / 10 * 10 + j % 10 by omega]
    exact this
theorem pclone_nil (cap : Nat) (w : World) : Calls Try.prog 23 #[.slice none 0 cap] w fun e w' => ∃ v', e = .returned v' ∧ w'.ownsRow w.heap.size 38 10 v' 0 (flat []) ∧ Kep w.heap.size w w' := by
  have hq := fun w a n c n' c' => Lib.run_eql_slice_nil (P := Try.prog) w 22 38 a n c n' c' Try.underlying22
  go_enter Try.func23, Try.ntmps23
  go_wp2
  go_ret
  exact ⟨_, rfl, World.ownsRow_nil _ _ _ _, Kep.refl _ _⟩
theorem pclone_some (a : Addr) (cap : Nat) (D : List Bd) (w : World) (h : Lst w (.slice (some a) D.length cap) D) (hn : D.length ≤ 4096) : Calls Try.prog 23 #[.slice (some a) D.length cap] w fun e w' => ∃ v', e = .returned v' ∧ w'.ownsRow w.heap.size 38 10 v' D.length (flat D) ∧ Kep w.heap.size w w' := by
  obtain ⟨i0, hi, hz0, hz1, hz2⟩ := info_parts info_body
  have hq := fun w a n c n' c' => Lib.run_eql_slice_nil (P := Try.prog) w 22 38 a n c n' c' Try.underlying22
  have HC := Lib.hid (lst_cells h)
  have HF := Lib.hid (flat_len D)
  have HI := Lib.hid hi
  have HN := Lib.hid hn
  clear h hi hn
  go_enter Try.func23, Try.ntmps23
  go_wp2_with (at_builtin; refine wpList_append_own _ rfl _ _ 22 rfl w.heap.size 38 i0 (.agg #[.int .u32 0, .int .i32 0, .int .i32 0, .int .i32 0, .int .i32 0, .int .i32 0, .int .i32 0, .int .i32 0, .int .i32 0, .int .i32 0]) 10 40 Try.underlying22 HI.out hz0 hz1 hz2 rfl (by decide) _ _ _ rfl (World.ownsRow_made w #[] 0 (Nat.le_refl _) (Nat.zero_le _) (by simp)) a D.length cap (flat D) rfl HF.out ?qc2 (flat_one D) ?qc4 ?qc5 ?qc6 ?_)
  case qc2 =>
    intro j u hj
    exact Lib.cell?_alloc_some _ (HC.out j u hj)
  case qc4 => rw [Nat.zero_add]; have := HN.out; unfold maxLen; omega
  case qc5 => rw [Nat.zero_add]; have := HN.out; omega
  case qc6 => simp
  intro v' w1 hown hgrow hnil
  have HO := Lib.hid hown
  clear hown hnil
  go_wp2
  go_ret
  exact ⟨v', rfl, by simpa using HO.out, Kep.of_below (((Below.refl _ w).alloc (Nat.le_refl _) _).grown hgrow (by simp) (by intro k hk; simp [Value.ownBlock] at hk; omega))⟩
theorem pclone_any {v : Value} {D : List Bd} (w : World) (h : Lst w v D) (hn : D.length ≤ 4096) : Calls Try.prog 23 #[v] w fun e w' => ∃ v', e = .returned v' ∧ w'.ownsRow w.heap.size 38 10 v' D.length (flat D) ∧ Kep w.heap.size w w' := by
  obtain ⟨b, c, rfl⟩ := h.shape
  cases b with
  | some a => exact pclone_some a c D w h hn
  | none =>
    have : D = [] := by
      rcases h with ⟨rfl, _⟩ | ⟨g, off, c', e, _⟩
      · rfl
      · injection e with e1; cases e1
    subst this
    exact pclone_nil c w
theorem Mine.keep {w w' : World} {B : Nat} {v : Value} {L : List Bd} (h : Mine w B v L) (k : Kep w.heap.size w w') : Mine w' B v L := ⟨h.1.kep k, fun g e => ⟨(h.2 g e).1, Nat.lt_of_lt_of_le (h.2 g e).2.1 k.size, fun j => (k.frozen (p := ⟨g, j, none⟩) (h.2 g e).2.1).trans ((h.2 g e).2.2 j)⟩⟩
theorem Mine.down {w : World} {B C : Nat} {v : Value} {L : List Bd} (h : Mine w B v L) (hC : C ≤ B) : Mine w C v L := ⟨h.1, fun g e => ⟨Nat.le_trans hC (h.2 g e).1, (h.2 g e).2⟩⟩
set_option maxRecDepth 100000 in
set_option maxHeartbeats 1000000 in
theorem psort_bad (v : Value) (c : Int) (w : World) (C : Hid (Calls Try.prog 22 #[v] w fun e w' => e = .returned (.int .i64 c) ∧ Kep w.heap.size w w')) (h0 : (c != 0) = true) : Calls Try.prog 9 #[v] w fun e w' => ∃ v', e = .returned (.tuple #[v', .int .i64 c]) ∧ Mine w' w.heap.size v' [] ∧ Kep w.heap.size w w' := by
  go_enter Try.func9, Try.ntmps9
  go_wp2_with ((with_reducible refine (C.out).mono ?_); rintro e w2 ⟨rfl, k2⟩; have K2 := Lib.hid k2; clear k2)
  go_ret2
  exact ⟨_, rfl, ⟨.inl ⟨rfl, none, 0, rfl⟩, fun g q => by cases q⟩, K2.out⟩
set_option maxRecDepth 100000 in
set_option maxHeartbeats 1000000 in
theorem psort_ok (v : Value) (L : List Bd) (w : World) (h : Lst w v L) (he : eachE L = 0) : Calls Try.prog 9 #[v] w fun e w' => ∃ v', e = .returned (.tuple #[v', .int .i64 (sortE L)]) ∧ Mine w' w.heap.size v' (sortL L) ∧ Kep w.heap.size w w' := by
  have hn := (eachE_zero.1 he).1
  have C := Lib.hid (by have := cb_any v L w h; rw [he] at this; exact this)
  have C1 := Lib.hid (fun w' (g : Kep w.heap.size w w') => pclone_any w' (h.kep g) hn)
  have C2 := Lib.hid (fun (v' : Value) (w' : World) (B : Nat) (o : w'.ownsRow B 38 10 v' L.length (flat L)) => psortf_any o hn)
  have C30 := Lib.hid (fun v' w' (m : List Bd) (l : Lst w' v' m) (hp : L.Perm m) (q : Asc m) => by have := ck_any v' m w' l (by have := hp.length_eq; omega); rw [if_pos q] at this; exact this)
  have C31 := Lib.hid (fun v' w' (m : List Bd) (l : Lst w' v' m) (hp : L.Perm m) (q : ¬ Asc m) => by have := ck_any v' m w' l (by have := hp.length_eq; omega); rw [if_neg q] at this; exact this)
  have E1 := Lib.hid (fun (m : List Bd) (hp : L.Perm m) (hm : Asc m) => sort_is he hp hm)
  have E2 := Lib.hid (fun (m : List Bd) (hp : L.Perm m) (hs : m.Pairwise fun x y => x.k ≤ y.k) (hm : ¬ Asc m) => sort_dup he hp hs hm)
  generalize sortE L = c at *
  generalize sortL L = R at *
  clear h he hn
  go_enter Try.func9, Try.ntmps9
  go_wp2_with (first
    | ((with_reducible refine (C.out).mono ?_); rintro e w2 ⟨rfl, k2⟩; have K2 := Lib.hid k2; clear k2)
    | ((with_reducible refine (C1.out _ K2.out).mono ?_); rintro e w3 ⟨v3, rfl, o3, k3⟩; have K3 := Lib.hid (K2.out.next k3); have O3 := Lib.hid o3; clear o3 k3)
    | ((with_reducible refine (C2.out _ _ _ O3.out).mono ?_); rintro e w4 ⟨rfl, ⟨m, p4, s4, m4⟩, k4⟩; have K4 := Lib.hid (K3.out.trans (k4.mono K2.out.size)); have M4 := Lib.hid m4; have P4 := Lib.hid p4; have S4 := Lib.hid s4; rcases Classical.em (Asc m) with q | q <;> (first | have CK := Lib.hid (C30.out _ _ m m4.1 p4 q) | have CK := Lib.hid (C31.out _ _ m m4.1 p4 q)) <;> (have Q := Lib.hid q; clear m4 p4 s4 k4 q))
    | ((with_reducible refine (CK.out).mono ?_); rintro e w5 ⟨rfl, k5⟩; have K5 := Lib.hid (K4.out.next k5); have M5 := Lib.hid (M4.out.keep k5); clear k5))
  · go_ret2
    have E := E1.out m P4.out Q.out
    exact ⟨v3, by rw [E.1]; rfl, by rw [E.2]; exact M5.out.down K2.out.size, K5.out⟩
  · go_ret2
    have E := E2.out m P4.out S4.out Q.out
    exact ⟨.slice none 0 0, by rw [E.1]; rfl, by rw [E.2]; exact ⟨.inl ⟨rfl, none, 0, rfl⟩, fun g q => by cases q⟩, K5.out⟩
theorem psort_any : VSort := fun v L w h _ _ => by
  by_cases c : eachE L = 0
  · exact psort_ok v L w h c
  · have e : sortE L = eachE L ∧ sortL L = [] := by
      unfold sortE sortL
      rw [if_pos c, if_pos c]
      exact ⟨rfl, rfl⟩
    rw [e.1, e.2]
    exact psort_bad v _ w (Lib.hid (cb_any v L w h)) (bne_iff_ne.2 c)
end Go.Proofs.Ytlfbiijillpnnaa
