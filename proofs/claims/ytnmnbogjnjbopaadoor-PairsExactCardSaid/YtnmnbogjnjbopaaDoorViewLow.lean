import Derived.Test.YtnmnbogjnjbopaaDoorBodyRef
import Derived.Test.YtnmnbogjnjbopaaDoorStoreSame
import Derived.Test.YtnmnbogjnjbopaaDoorStoreRef
import Derived.Deep.QuietTactic
import Derived.BigQuiet
import Derived.Test.YtnmnbogjnjbopaaDoorViewKeys
import Derived.Deep.AppendLies
import Derived.Test.YtnmnbogjnjbopaaDoorBodySlice

/-! ViewLow: BodyIn, StoreAll, StoreLst, ViewEach, ViewSame, ViewTri, ViewMath, ViewMath2. -/

section
/-
  What a valid body's parts lie within.
-/
namespace Go.Proofs.YtnmnbogjnjbopaaDoor
open Go.RowKit Go.Lib

theorem chk_lim {r ax ay m o px py vx vy : Int} (h : chk r ax ay m o px py vx vy = 0) : (4096 ≤ r ∧ r ≤ 4194304) ∧ ((-4194304 ≤ ax ∧ ax ≤ 4194304) ∧ (-4194304 ≤ ay ∧ ay ≤ 4194304)) ∧ ((-1073741824 ≤ px ∧ px ≤ 1073741824) ∧ (-1073741824 ≤ py ∧ py ≤ 1073741824)) := by
  unfold chk at h
  split at h
  · split at h
    · split at h
      · split at h
        · split at h
          · rename_i h1 h2 h3 h4 h5
            exact ⟨h1, h2, h5⟩
          · omega
        · omega
      · omega
    · omega
  · omega
end Go.Proofs.YtnmnbogjnjbopaaDoor
end

section
/-
  Package store's reference: All.
-/
namespace Go.Proofs.YtnmnbogjnjbopaaDoor
open Go.RowKit Go.Lib

/-- The bodies after adding some of them to none. -/
def allL (l : List Bd) : List Bd := l.foldl addL []
theorem allL_snoc (l : List Bd) (x : Bd) : allL (l ++ [x]) = addL (allL l) x := by simp [allL]
theorem addL_asc {m : List Bd} (h : Asc m) (x : Bd) : Asc (addL m x) ∧ (addL m x).length ≤ m.length + 1 := by
  unfold addL
  split
  · exact ⟨h, by omega⟩
  · split
    · exact ⟨h, by omega⟩
    · split
      · exact ⟨h, by omega⟩
      · exact ⟨put_asc h x false, (put_len h x).2⟩
theorem allL_asc (l : List Bd) : Asc (allL l) ∧ (allL l).length ≤ l.length := by
  suffices h : ∀ (l m : List Bd) (n : Nat), Asc m → m.length ≤ n → Asc (l.foldl addL m) ∧ (l.foldl addL m).length ≤ n + l.length by
    have := h l [] 0 trivial (by simp)
    simpa [allL] using this
  intro l
  induction l with
  | nil => intro m n h1 h2; exact ⟨h1, by simpa using h2⟩
  | cons x l ih =>
    intro m n h1 h2
    have a := addL_asc h1 x
    have := ih (addL m x) (n + 1) a.1 (by omega)
    exact ⟨this.1, by have := this.2; simp only [List.foldl_cons, List.length_cons]; omega⟩
theorem allL_take {L : List Bd} {k : Nat} {x : Bd} (hx : L[k]? = some x) : allL (L.take (k + 1)) = addL (allL (L.take k)) x := by
  rw [List.take_add_one, hx]
  exact allL_snoc _ _

set_option maxRecDepth 100000 in
set_option maxHeartbeats 1000000 in
theorem all_any (v : Value) (L : List Bd) (w : World) (h : Lst w v L) (hm : L.length ≤ 1000000) :
    Calls Tryd.prog 75 #[v] w fun e w' => ∃ v', e = .returned v' ∧ (Lst w' v' (allL L) ∧ New w v' w') ∧ Kep w.heap.size w w' := by
  by_cases hL : L = []
  · subst hL
    obtain ⟨b1, c1, rfl⟩ := h.shape
    clear h hm
    go_enter Tryd.func75, Tryd.ntmps75
    go_wp2
    refine wp_loop_rounds 1 ?_
    rw [rounds_succ]
    go_wp2
    go_ret
    exact ⟨_, rfl, ⟨.inl ⟨rfl, none, 0, rfl⟩, new_nil _ _⟩, Kep.refl _ _⟩
  · obtain ⟨g, off, cap, rfl, hc⟩ := h.full hL
    have HC := Lib.hid hc
    clear hc h hL
    generalize hn : L.length = n at *
    have HN := Lib.hid hn
    clear hn
    go_enter Tryd.func75, Tryd.ntmps75
    go_wp2
    go_loopw [3, 4] (fun out i wr => ∃ k : Nat, k ≤ n ∧ i = .int .i64 k ∧ Hid ((Lst wr out (allL (L.take k)) ∧ New w out wr) ∧ Kep w.heap.size w wr)) (fun _ i _ => n - (RowKit.intOf i).toNat)
    case atStart => exact ⟨0, Nat.zero_le _, rfl, Lib.hid ⟨⟨.inl ⟨by simp [allL], none, 0, rfl⟩, new_nil _ _⟩, Kep.refl _ _⟩⟩
    case round =>
      obtain ⟨k, hk, rfl, HK⟩ := hrel
      by_cases hlt : k < n
      · have hb : L[k]? = some (L[k]'(by rw [HN.out]; exact hlt)) := List.getElem?_eq_getElem _
        generalize L[k]'(by rw [HN.out]; exact hlt) = x at hb
        obtain ⟨x0, x1, x2, x3, x4, x5, x6, x7, x8, x9⟩ := old_cells HK.out.2 (HC.out k x hb)
        have C := Lib.hid (radd_any u3 (allL (L.take k)) x wr HK.out.1.1 (by have := (allL_asc (L.take k)).2; have := List.length_take_le k L; omega))
        have HX := Lib.hid (allL_take hb)
        clear hb
        go_wp2_with (refine (C.out).mono ?_; rintro e w1 ⟨v', rfl, h1, h2, h3⟩; replace h1 := Lib.hid h1; replace h2 := Lib.hid h2; replace h3 := Lib.hid h3)
        go_roundw
        case rel => exact ⟨k + 1, by omega, by go_num, Lib.hid ⟨⟨by rw [HX.out]; exact h1.out, by rcases h3.out with e | e; (· subst e; exact ⟨fun g q => ⟨(HK.out.1.2.1 g q).1, Nat.lt_of_lt_of_le (HK.out.1.2.1 g q).2 h2.out.size⟩, HK.out.1.2.2⟩); exact e.older HK.out.2.size⟩, HK.out.2.trans (h2.out.mono HK.out.2.size)⟩⟩
        case measure => simp [RowKit.intOf]; omega
      · go_wp2
        go_ret
        exact ⟨_, rfl, ⟨by have := HK.out.1.1; rw [List.take_of_length_le (by rw [HN.out]; omega)] at this; exact this, HK.out.1.2⟩, HK.out.2⟩
end Go.Proofs.YtnmnbogjnjbopaaDoor
end

section
/-
  A slice that reads as a list of bodies: the cells of one of them, the address taken out.
-/
namespace Go.Proofs.YtnmnbogjnjbopaaDoor
open Go.RowKit Go.Lib

theorem Lst.at_ {w : World} {base : Option Addr} {n cap k : Nat} {L : List Bd} {b : Bd} (h : Lst w (.slice base n cap) L) (hb : L[k]? = some b) : ∃ g off, base = some ⟨g, off, none⟩ ∧ ∀ i, i < 10 → w.cell? ⟨g, off + k * 10 + i, none⟩ = (vals b)[i]? := by
  rcases h with ⟨rfl, _⟩ | ⟨g, off, c, e, hc⟩
  · simp at hb
  · injection e with e1 e2 e3
    exact ⟨g, off, e1, hc k b hb⟩
end Go.Proofs.YtnmnbogjnjbopaaDoor
end

section
/-
  Package view's reference: each, Check, Sort.
-/
namespace Go.Proofs.YtnmnbogjnjbopaaDoor
open Go.RowKit Go.Lib

/-- The error of the first body that is not valid. -/
def firstBad : List Bd → Int
  | [] => 0
  | x :: l => if chkB x ≠ 0 then chkB x else firstBad l
def eachE (L : List Bd) : Int := if 4096 < L.length then 12 else firstBad L
theorem bad_drop {L : List Bd} {k : Nat} {x : Bd} (h : L[k]? = some x) : firstBad (L.drop k) = if chkB x ≠ 0 then chkB x else firstBad (L.drop (k + 1)) := by
  obtain ⟨hk, e⟩ := List.getElem?_eq_some_iff.1 h
  rw [List.drop_eq_getElem_cons hk, e]
  rfl
theorem each_full (base : Option Addr) (cap n : Nat) (w : World) (hn : (4096 : Int) < (n : Int)) : Calls Tryd.prog 74 #[.slice base n cap] w fun e w' => e = .returned (.int .i64 12) ∧ w = w' := by
  go_enter Tryd.func74, Tryd.ntmps74
  go_wp2
  go_ret
  exact ⟨rfl, rfl⟩
set_option maxRecDepth 100000 in
set_option maxHeartbeats 1000000 in
theorem each_some (base : Option Addr) (cap : Nat) (L : List Bd) (w : World) (h : Lst w (.slice base L.length cap) L) (hl : L.length ≤ 4096) : Calls Tryd.prog 74 #[.slice base L.length cap] w fun e w' => e = .returned (.int .i64 (firstBad L)) ∧ Kep w.heap.size w w' := by
  obtain ⟨n, hn⟩ : ∃ n, n = L.length := ⟨_, rfl⟩
  have HN := Lib.hid hn.symm
  rw [← hn] at h hl ⊢
  have H := Lib.hid h
  have hl' : (n : Int) ≤ 4096 := by omega
  clear hn h hl
  go_enter Tryd.func74, Tryd.ntmps74
  go_wp2
  go_loopw [3] (fun i wr => ∃ k : Nat, k ≤ n ∧ i = .int .i64 k ∧ Hid (firstBad L = firstBad (L.drop k) ∧ Kep w.heap.size w wr)) (fun i _ => n - (RowKit.intOf i).toNat)
  case atStart => exact ⟨0, Nat.zero_le _, rfl, Lib.hid ⟨by simp, Kep.refl _ _⟩⟩
  case round =>
    obtain ⟨k, hk, rfl, HK⟩ := hrel
    by_cases hlt : k < n
    · have hx : L[k]? = some (L[k]'(by rw [HN.out]; exact hlt)) := List.getElem?_eq_getElem _
      generalize L[k]'(by rw [HN.out]; exact hlt) = x at hx
      obtain ⟨g1, off1, hb1, hc1⟩ := Lst.at_ (H.out.kep HK.out.2) hx
      subst hb1
      obtain ⟨x0, x1, x2, x3, x4, x5, x6, x7, x8, x9⟩ := old_cells (Kep.refl _ _) hc1
      have HX := Lib.hid (bad_drop hx)
      clear hc1 hx
      obtain ⟨c, hc⟩ : ∃ c, c = chkB x := ⟨_, rfl⟩
      have CK := Lib.hid (rckb hc.symm)
      have HC := Lib.hid hc.symm
      clear hc
      by_cases c0 : c = 0
      · subst c0
        go_wp2_with ((with_reducible refine (CK.out _).mono ?_); rintro e w2 ⟨rfl, g2⟩; have K2 := Lib.hid (HK.out.2.trans ((Kep.of_grown g2).mono HK.out.2.size)))
        go_roundw
        case rel => exact ⟨k + 1, by omega, by go_num, Lib.hid ⟨by rw [HK.out.1, HX.out, if_neg (fun q => q HC.out)], K2.out⟩⟩
        case measure => simp [RowKit.intOf]; omega
      · have c1 : (c != 0) = true := bne_iff_ne.2 c0
        go_wp2_with ((with_reducible refine (CK.out _).mono ?_); rintro e w2 ⟨rfl, g2⟩; have K2 := Lib.hid (HK.out.2.trans ((Kep.of_grown g2).mono HK.out.2.size)))
        go_ret
        exact ⟨ret_int64 (by rw [HK.out.1, HX.out, HC.out, if_pos c0]), K2.out⟩
    · go_wp2
      go_ret
      exact ⟨ret_int64 (by rw [HK.out.1, List.drop_eq_nil_of_le (by rw [HN.out]; omega)]; rfl), HK.out.2⟩
theorem each_any (v : Value) (L : List Bd) (w : World) (h : Lst w v L) : Calls Tryd.prog 74 #[v] w fun e w' => e = .returned (.int .i64 (eachE L)) ∧ Kep w.heap.size w w' := by
  obtain ⟨base, cap, rfl⟩ := h.shape
  unfold eachE
  by_cases c : 4096 < L.length
  · rw [if_pos c]
    exact (each_full base cap L.length w (by omega)).mono fun e w' ⟨h1, h2⟩ => ⟨h1, h2 ▸ Kep.refl _ _⟩
  · rw [if_neg c]; exact each_some base cap L w h (by omega)

/-- The first k + 1 keys ascend. -/
def Ups (L : List Bd) (k : Nat) : Prop := ∀ (j : Nat) (x y : Bd), j < k → L[j]? = some x → L[j + 1]? = some y → x.k < y.k
def decAsc : (L : List Bd) → Decidable (Asc L)
  | [] => .isTrue trivial
  | x :: l =>
    haveI := decAsc l
    inferInstanceAs (Decidable ((∀ y ∈ l, x.k < y.k) ∧ Asc l))
instance (L : List Bd) : Decidable (Asc L) := decAsc L
def vchkE (L : List Bd) : Int := if eachE L ≠ 0 then eachE L else if Asc L then 0 else 10
theorem asc_of_ups {L : List Bd} (h : ∀ (j : Nat) (x y : Bd), L[j]? = some x → L[j + 1]? = some y → x.k < y.k) : Asc L := by
  induction L with
  | nil => trivial
  | cons x l ih =>
    have ha : Asc l := ih fun j a b ha hb => h (j + 1) a b (by simpa using ha) (by simpa using hb)
    refine ⟨?_, ha⟩
    cases l with
    | nil => intro y hy; simp at hy
    | cons z l =>
      have hz := h 0 x z rfl rfl
      intro y hy
      rcases List.mem_cons.1 hy with rfl | hy
      · exact hz
      · have := ha.1 y hy; omega
theorem ups_of_asc : ∀ {L : List Bd}, Asc L → ∀ (j : Nat) (x y : Bd), L[j]? = some x → L[j + 1]? = some y → x.k < y.k
  | [], _, _, _, _, h, _ => by simp at h
  | a :: l, ⟨h1, h2⟩, 0, x, y, hx, hy => by
    simp at hx
    subst hx
    exact h1 y (List.mem_of_getElem? (i := 0) (by simpa using hy))
  | a :: l, ⟨h1, h2⟩, j + 1, x, y, hx, hy => ups_of_asc h2 j x y (by simpa using hx) (by simpa using hy)
def sortE (L : List Bd) : Int := if eachE L ≠ 0 then eachE L else if (allL L).length < L.length then 10 else 0
def sortL (L : List Bd) : List Bd := if eachE L ≠ 0 then [] else if (allL L).length < L.length then [] else allL L
theorem rsort_bad (base : Option Addr) (cap : Nat) (L : List Bd) (w : World) (h : Lst w (.slice base L.length cap) L) (c : Int) (he : eachE L = c) (h0 : c ≠ 0) : Calls Tryd.prog 54 #[.slice base L.length cap] w fun e w' => e = .returned (.tuple #[.slice none 0 0, .int .i64 c]) ∧ Kep w.heap.size w w' := by
  have C := Lib.hid (by have := each_any _ L w h; rw [he] at this; exact this)
  have c1 : (c != 0) = true := bne_iff_ne.2 h0
  clear he h
  go_enter Tryd.func54, Tryd.ntmps54
  go_wp2_with ((with_reducible refine (C.out).mono ?_); rintro e w2 ⟨rfl, k2⟩; have K2 := Lib.hid k2; clear k2)
  go_ret2
  exact ⟨rfl, K2.out⟩
theorem rsort_ok (base : Option Addr) (cap : Nat) (L : List Bd) (w : World) (h : Lst w (.slice base L.length cap) L) (hl : L.length ≤ 1000000) (he : eachE L = 0) : Calls Tryd.prog 54 #[.slice base L.length cap] w fun e w' => ∃ v', e = .returned (.tuple #[v', .int .i64 (if (allL L).length < L.length then 10 else 0)]) ∧ (Lst w' v' (if (allL L).length < L.length then [] else allL L) ∧ New w v' w') ∧ Kep w.heap.size w w' := by
  have C := Lib.hid (by have := each_any _ L w h; rw [he] at this; exact this)
  have CA := Lib.hid (fun w' (g : Kep w.heap.size w w') => all_any _ L w' (h.kep g) hl)
  obtain ⟨n, hn⟩ : ∃ n, n = L.length := ⟨_, rfl⟩
  obtain ⟨q, hq⟩ : ∃ q, q = (allL L).length := ⟨_, rfl⟩
  rw [← hn] at h hl C CA ⊢
  rw [← hq]
  have HQ := Lib.hid hq.symm
  by_cases c : q < n
  · rw [if_pos c, if_pos c]
    have c1 : (q : Int) < (n : Int) := by omega
    clear hn hq h hl he
    go_enter Tryd.func54, Tryd.ntmps54
    go_wp2_with (first
      | ((with_reducible refine (C.out).mono ?_); rintro e w2 ⟨rfl, k2⟩; have K2 := Lib.hid k2; clear k2)
      | ((with_reducible refine (CA.out _ K2.out).mono ?_); rintro e w3 ⟨v3, rfl, ⟨l3, n3⟩, k3⟩; obtain ⟨base3, cap3, hv3⟩ := l3.shape; rw [HQ.out] at hv3; subst hv3; have K3 := Lib.hid k3; clear l3 n3 k3))
    go_ret2
    exact ⟨_, rfl, ⟨.inl ⟨rfl, none, 0, rfl⟩, new_nil _ _⟩, K2.out.trans (K3.out.mono K2.out.size)⟩
  · rw [if_neg c, if_neg c]
    have c1 : (n : Int) ≤ (q : Int) := by omega
    clear hn hq h hl he
    go_enter Tryd.func54, Tryd.ntmps54
    go_wp2_with (first
      | ((with_reducible refine (C.out).mono ?_); rintro e w2 ⟨rfl, k2⟩; have K2 := Lib.hid k2; clear k2)
      | ((with_reducible refine (CA.out _ K2.out).mono ?_); rintro e w3 ⟨v3, rfl, ⟨l3, n3⟩, k3⟩; obtain ⟨base3, cap3, hv3⟩ := l3.shape; rw [HQ.out] at hv3; subst hv3; have L3 := Lib.hid l3; have N3 := Lib.hid n3; have K3 := Lib.hid k3; clear l3 n3 k3))
    go_ret2
    exact ⟨_, rfl, ⟨L3.out, N3.out.older K2.out.size⟩, K2.out.trans (K3.out.mono K2.out.size)⟩
theorem rsort_any (v : Value) (L : List Bd) (w : World) (h : Lst w v L) (hl : L.length ≤ 1000000) : Calls Tryd.prog 54 #[v] w fun e w' => ∃ v', e = .returned (.tuple #[v', .int .i64 (sortE L)]) ∧ (Lst w' v' (sortL L) ∧ New w v' w') ∧ Kep w.heap.size w w' := by
  obtain ⟨base, cap, rfl⟩ := h.shape
  unfold sortE sortL
  by_cases c : eachE L = 0
  · have d : ¬ (eachE L ≠ 0) := fun q => q c
    rw [if_neg d, if_neg d]; exact rsort_ok base cap L w h hl c
  · rw [if_pos c, if_pos c]
    exact (rsort_bad base cap L w h _ rfl c).mono fun e w' ⟨h1, h2⟩ => ⟨_, h1, ⟨.inl ⟨rfl, none, 0, rfl⟩, new_nil _ _⟩, h2⟩
end Go.Proofs.YtnmnbogjnjbopaaDoor
end

section
/-
  Package store's reference: Same, of two slices that read as different lists.
-/
namespace Go.Proofs.YtnmnbogjnjbopaaDoor
open Go.RowKit Go.Lib

theorem bd_ext {x y : Bd} (h0 : x.k = y.k) (h1 : x.r = y.r) (h2 : x.ax = y.ax) (h3 : x.ay = y.ay) (h4 : x.m = y.m) (h5 : x.o = y.o) (h6 : x.px = y.px) (h7 : x.py = y.py) (h8 : x.vx = y.vx) (h9 : x.vy = y.vy) : x = y := by
  cases x; cases y; simp_all
def eqB (x y : Bd) : Bool := x.k == y.k && (x.r == y.r && (x.ax == y.ax && (x.ay == y.ay && (x.m == y.m && (x.o == y.o && (x.px == y.px && (x.py == y.py && (x.vx == y.vx && x.vy == y.vy))))))))
theorem eqB_iff {x y : Bd} : eqB x y = true ↔ x = y := by
  constructor
  · intro h
    simp only [eqB, Bool.and_eq_true, beq_iff_eq] at h
    obtain ⟨h0, h1, h2, h3, h4, h5, h6, h7, h8, h9⟩ := h
    exact bd_ext h0 h1 h2 h3 h4 h5 h6 h7 h8 h9
  · rintro rfl
    simp [eqB]
theorem eqB_no {x y : Bd} (h : x ≠ y) : eqB x y = false := by
  cases c : eqB x y with
  | false => rfl
  | true => exact absurd (eqB_iff.1 c) h
theorem cmp_ints (x0 x1 x2 x3 x4 x5 x6 x7 x8 x9 y0 y1 y2 y3 y4 y5 y6 y7 y8 y9 : Int) (w : World) : (binOp .neq 69 (.agg #[Value.int .u32 x0, Value.int .i32 x1, Value.int .i32 x2, Value.int .i32 x3, Value.int .i32 x4, Value.int .i32 x5, Value.int .i32 x6, Value.int .i32 x7, Value.int .i32 x8, Value.int .i32 x9]) (.agg #[Value.int .u32 y0, Value.int .i32 y1, Value.int .i32 y2, Value.int .i32 y3, Value.int .i32 y4, Value.int .i32 y5, Value.int .i32 y6, Value.int .i32 y7, Value.int .i32 y8, Value.int .i32 y9])).run Tryd.prog w = .ok (.bool (!(x0 == y0 && (x1 == y1 && (x2 == y2 && (x3 == y3 && (x4 == y4 && (x5 == y5 && (x6 == y6 && (x7 == y7 && (x8 == y8 && (x9 == y9)))))))))))) w := by
  by_cases e0 : x0 = y0
  rotate_left
  · have f : (x0 == y0) = false := beq_eq_false_iff_ne.2 e0
    simp [go_sem, f]
  subst e0
  by_cases e1 : x1 = y1
  rotate_left
  · have f : (x1 == y1) = false := beq_eq_false_iff_ne.2 e1
    simp [go_sem, f]
  subst e1
  by_cases e2 : x2 = y2
  rotate_left
  · have f : (x2 == y2) = false := beq_eq_false_iff_ne.2 e2
    simp [go_sem, f]
  subst e2
  by_cases e3 : x3 = y3
  rotate_left
  · have f : (x3 == y3) = false := beq_eq_false_iff_ne.2 e3
    simp [go_sem, f]
  subst e3
  by_cases e4 : x4 = y4
  rotate_left
  · have f : (x4 == y4) = false := beq_eq_false_iff_ne.2 e4
    simp [go_sem, f]
  subst e4
  by_cases e5 : x5 = y5
  rotate_left
  · have f : (x5 == y5) = false := beq_eq_false_iff_ne.2 e5
    simp [go_sem, f]
  subst e5
  by_cases e6 : x6 = y6
  rotate_left
  · have f : (x6 == y6) = false := beq_eq_false_iff_ne.2 e6
    simp [go_sem, f]
  subst e6
  by_cases e7 : x7 = y7
  rotate_left
  · have f : (x7 == y7) = false := beq_eq_false_iff_ne.2 e7
    simp [go_sem, f]
  subst e7
  by_cases e8 : x8 = y8
  rotate_left
  · have f : (x8 == y8) = false := beq_eq_false_iff_ne.2 e8
    simp [go_sem, f]
  subst e8
  by_cases e9 : x9 = y9
  rotate_left
  · have f : (x9 == y9) = false := beq_eq_false_iff_ne.2 e9
    simp [go_sem, f]
  subst e9
  simp [go_sem]
theorem body_cmp (x y : Bd) (w : World) : (binOp .neq 69 (.agg #[Value.int .u32 x.k, Value.int .i32 x.r, Value.int .i32 x.ax, Value.int .i32 x.ay, Value.int .i32 x.m, Value.int .i32 x.o, Value.int .i32 x.px, Value.int .i32 x.py, Value.int .i32 x.vx, Value.int .i32 x.vy]) (.agg #[Value.int .u32 y.k, Value.int .i32 y.r, Value.int .i32 y.ax, Value.int .i32 y.ay, Value.int .i32 y.m, Value.int .i32 y.o, Value.int .i32 y.px, Value.int .i32 y.py, Value.int .i32 y.vx, Value.int .i32 y.vy])).run Tryd.prog w = .ok (.bool (!eqB x y)) w := cmp_ints _ _ _ _ _ _ _ _ _ _ _ _ _ _ _ _ _ _ _ _ w

end Go.Proofs.YtnmnbogjnjbopaaDoor
end

section
/-
  Package view's reference: three slices of keys in a struct, one of them appended to; the lists of a difference.
-/
namespace Go.Proofs.YtnmnbogjnjbopaaDoor
open Go.RowKit Go.Lib

/-- The keys of L that M has not. -/
def remL (L M : List Bd) : List Int := (L.filter fun x => (look M x.k).isNone).map (·.k)
def chgB (M : List Bd) (x : Bd) : Bool := match look M x.k with
  | none => false
  | some y => !eqB y x
/-- The keys of L that M has with another body. -/
def chgL (L M : List Bd) : List Int := (L.filter (chgB M)).map (·.k)
theorem chg_none {M : List Bd} {x : Bd} (h : look M x.k = none) : chgB M x = false := by simp [chgB, h]
theorem chg_some {M : List Bd} {x y : Bd} (h : look M x.k = some y) : chgB M x = !eqB y x := by simp [chgB, h]
def diffC (L M : List Bd) : Ch := ⟨remL M L, remL L M, chgL L M⟩
theorem remL_take {L M : List Bd} {k : Nat} {x : Bd} (hx : L[k]? = some x) : remL (L.take (k + 1)) M = remL (L.take k) M ++ if (look M x.k).isNone then [x.k] else [] := by
  rw [List.take_add_one, hx]
  unfold remL
  rw [List.filter_append, List.map_append]
  congr 1
  cases c : (look M x.k).isNone <;> simp [c]
theorem chgL_take {L M : List Bd} {k : Nat} {x : Bd} (hx : L[k]? = some x) : chgL (L.take (k + 1)) M = chgL (L.take k) M ++ if chgB M x then [x.k] else [] := by
  rw [List.take_add_one, hx]
  unfold chgL
  rw [List.filter_append, List.map_append]
  congr 1
  cases c : chgB M x <;> simp [c]
theorem remL_len (L M : List Bd) (k : Nat) : (remL (L.take k) M).length ≤ k := by
  unfold remL
  rw [List.length_map]
  exact Nat.le_trans (List.length_filter_le _ _) (List.length_take_le k L)
theorem chgL_len (L M : List Bd) (k : Nat) : (chgL (L.take k) M).length ≤ k := by
  unfold chgL
  rw [List.length_map]
  exact Nat.le_trans (List.length_filter_le _ _) (List.length_take_le k L)

/-- The cells of a list of keys. -/
def kvs (K : List Int) : List Value := K.map (Value.int .u32)
/-- Block b holds three slices of keys that lie in blocks of their own. -/
structure Tri (b : Nat) (w : World) (V : Nat → Value) (K : Nat → List Int) : Prop where
  cell : ∀ i, i < 3 → w.cell? ⟨b, i, none⟩ = some (V i)
  fr : ∀ i, w.frozen? ⟨b, i, none⟩ = false
  own : ∀ i, i < 3 → w.ownsRow (b + 1) 42 1 (V i) (K i).length (kvs (K i))
  apart : ∀ i j g, i < 3 → j < 3 → (V i).ownBlock = some g → (V j).ownBlock = some g → i = j
theorem Tri.lt {b : Nat} {w : World} {V : Nat → Value} {K : Nat → List Int} (h : Tri b w V K) : b < w.heap.size := World.block_lt_of_cell? _ _ (h.cell 0 (by decide))
theorem Tri.drewN {b : Nat} {w : World} {V : Nat → Value} {K : Nat → List Int} (h : Tri b w V K) (n : Nat) : Tri b (w.drewN n) V K := ⟨h.cell, h.fr, h.own, h.apart⟩
theorem Tri.grown {b : Nat} {w w' : World} {V : Nat → Value} {K : Nat → List Int} (h : Tri b w V K) (g : w.grownBy w' none) : Tri b w' V K :=
  ⟨fun i hi => g.cell (h.cell i hi) (by simp), fun i => (World.frozen?_of_block (g.block b h.lt (by simp))).trans (h.fr i), fun i hi => (h.own i hi).kept g (by
    cases e : (V i).ownBlock with
    | none => exact .inl rfl
    | some x => exact .inr (by simp)), h.apart⟩
def upd {α : Type} (f : Nat → α) (j : Nat) (x : α) (i : Nat) : α := if i = j then x else f i
theorem sc_by (w : World) (b o : Nat) (u : Value) : w.grownBy (w.setCell ⟨b, o, none⟩ u) (some b) := ⟨rfl, rfl, rfl, by simp, fun k _ hk => heap_setCell_other w ⟨b, o, none⟩ k u (fun e => hk (by simp [e]))⟩
/-- One of them appended to. -/
theorem Tri.more {b : Nat} {w w4 : World} {V : Nat → Value} {K : Nat → List Int} (h : Tri b w V K) {j : Nat} (hj : j < 3) {x : Int} {g cap : Nat}
    (h4 : w4.ownsRow (b + 1) 42 1 (.slice (some ⟨g, 0, none⟩) ((K j).length + 1) cap) ((K j).length + 1) (kvs (K j) ++ [.int .u32 x])) (g4 : w.grownBy w4 (V j).ownBlock) (hat : (V j).ownBlock = some g ∨ w.heap.size ≤ g) :
    Tri b (w4.setCell ⟨b, j, none⟩ (.slice (some ⟨g, 0, none⟩) ((K j).length + 1) cap)) (upd V j (.slice (some ⟨g, 0, none⟩) ((K j).length + 1) cap)) (upd K j (K j ++ [x])) := by
  have hb : (V j).ownBlock ≠ some b := fun e => by have := ((h.own j hj).lt b e).1; omega
  have hc : ∀ i, i < 3 → w4.cell? ⟨b, i, none⟩ = some (V i) := fun i hi => g4.cell (h.cell i hi) (fun e => hb e.symm)
  have hbb : w4.heap[b]? = w.heap[b]? := g4.block b h.lt (fun e => hb e.symm)
  have gs := sc_by w4 b j (.slice (some ⟨g, 0, none⟩) ((K j).length + 1) cap)
  have hgb : g ≠ b := by
    rcases hat with e | e
    · exact fun q => hb (by rw [e, q])
    · have := h.lt; omega
  have hne : ∀ i, i < 3 → i ≠ j → (V i).ownBlock ≠ some g := fun i hi hij e => by
    rcases hat with q | q
    · exact hij (h.apart i j g hi hj e q)
    · have := ((h.own i hi).lt g e).2; omega
  refine ⟨fun i hi => ?_, fun i => ?_, fun i hi => ?_, fun i k x hi hk e1 e2 => ?_⟩
  · unfold upd
    by_cases e : i = j
    · subst e; rw [if_pos rfl]; exact World.cell?_setCell_same' _ _ _ (by rw [hc i hi]; rfl)
    · rw [if_neg e, World.cell?_setCell_other (h := by simp)]; exact hc i hi
  · exact (World.frozen?_setCell _ _ _ _).trans ((World.frozen?_of_block hbb).trans (h.fr i))
  · unfold upd
    by_cases e : i = j
    · subst e
      rw [if_pos rfl, if_pos rfl]
      have := h4.kept gs (.inr (by simpa [Value.ownBlock] using hgb))
      simpa [kvs] using this
    · rw [if_neg e, if_neg e]
      refine ((h.own i hi).kept g4 ?_).kept gs ?_
      · cases q : (V i).ownBlock with
        | none => exact .inl rfl
        | some y => exact .inr (fun r => e (h.apart i j y hi hj q r.symm))
      · exact .inr (fun r => by have := ((h.own i hi).lt b r).1; omega)
  · unfold upd at e1 e2
    by_cases c1 : i = j <;> by_cases c2 : k = j
    · omega
    · rw [if_pos c1] at e1
      rw [if_neg c2] at e2
      injection e1 with e1
      subst e1
      exact absurd e2 (hne k hk c2)
    · rw [if_neg c1] at e1
      rw [if_pos c2] at e2
      injection e2 with e2
      subst e2
      exact absurd e1 (hne i hi c1)
    · rw [if_neg c1] at e1
      rw [if_neg c2] at e2
      exact h.apart i k x hi hk e1 e2
theorem Tri.far {b c : Nat} {w w' : World} {V : Nat → Value} {K : Nat → List Int} (h : Tri b w V K) (g : w.grownBy w' (some c)) (hc : c < b) : Tri b w' V K :=
  ⟨fun i hi => g.cell (h.cell i hi) (by simp; omega), fun i => (World.frozen?_of_block (g.block b h.lt (by simp; omega))).trans (h.fr i), fun i hi => (h.own i hi).kept g (.inr (fun e => by have := ((h.own i hi).lt c e).1; omega)), h.apart⟩
theorem Tri.shape {b : Nat} {w : World} {V : Nat → Value} {K : Nat → List Int} (h : Tri b w V K) {i : Nat} (hi : i < 3) : ∃ base cap, V i = .slice base (K i).length cap := by
  rcases (h.own i hi).2 with ⟨e, h0⟩ | ⟨g, cap, _, e, _⟩
  · exact ⟨none, 0, by rw [e, h0]⟩
  · exact ⟨_, cap, e⟩
theorem own_klst {w : World} {B : Nat} {v : Value} {K : List Int} (h : w.ownsRow B 42 1 v K.length (kvs K)) : KLst w v K := by
  obtain ⟨_, ⟨rfl, h0⟩ | ⟨g, cap, cur, rfl, _, hg, hn, _, hs, hc⟩⟩ := h
  · exact .inl ⟨List.length_eq_zero_iff.1 h0, none, 0, rfl⟩
  · refine .inr ⟨g, 0, cap, rfl, fun k x hx => ?_⟩
    have hk : k < K.length := (List.getElem?_eq_some_iff.1 hx).1
    have e : (kvs K)[k]? = some (.int .u32 x) := by simp [kvs, hx]
    rw [← e, ← hc]
    simp only [World.cell?, hg]
    rw [List.getElem?_take_of_lt (by omega)]
    simp
theorem info_u32 : (Tryd.prog.info? 42).map (fun i => (i.zero, i.size, i.bytes)) = some (some (.int .u32 0), 1, 4) := by kernel_rfl
end Go.Proofs.YtnmnbogjnjbopaaDoor
end

section
/-
  Package view: what its laws say about lists of bodies.
-/
namespace Go.Proofs.YtnmnbogjnjbopaaDoor
open Go.RowKit Go.Lib

instance : DecidableEq Bd := fun x y => decidable_of_iff (eqB x y = true) eqB_iff
theorem addL_mem {m : List Bd} (h : Asc m) {x y : Bd} (hy : y ∈ addL m x) : y = x ∨ y ∈ m := by
  unfold addL at hy
  split at hy
  · exact .inr hy
  · split at hy
    · exact .inr hy
    · split at hy
      · exact .inr hy
      · rcases (mem_put h x y).1 hy with e | e
        · exact .inl e
        · exact .inr e.1
theorem fold_mem : ∀ (l m : List Bd), Asc m → ∀ y, y ∈ l.foldl addL m → y ∈ l ∨ y ∈ m
  | [], _, _, _, h => .inr h
  | x :: l, m, hm, y, h => by
    rcases fold_mem l (addL m x) (addL_asc hm x).1 y h with e | e
    · exact .inl (by simp [e])
    · rcases addL_mem hm e with e | e
      · exact .inl (by simp [e])
      · exact .inr e
theorem allL_mem {L : List Bd} {y : Bd} (h : y ∈ allL L) : y ∈ L := by
  rcases fold_mem L [] trivial y h with e | e
  · exact e
  · cases e
theorem sortL_mem {L : List Bd} {y : Bd} (h : y ∈ sortL L) : y ∈ L := by
  unfold sortL at h
  split at h
  · cases h
  · split at h
    · cases h
    · exact allL_mem h
theorem sortL_asc (L : List Bd) : Asc (sortL L) ∧ (sortL L).length ≤ L.length := by
  unfold sortL
  split
  · exact ⟨trivial, by simp⟩
  · split
    · exact ⟨trivial, by simp⟩
    · exact allL_asc L
theorem sortL_fits {L : List Bd} (h : ∀ x ∈ L, Fits x) : ∀ x ∈ sortL L, Fits x := fun x hx => h x (sortL_mem hx)

/-! ### the difference -/
theorem look_filter (p : Bd → Bool) : ∀ {l : List Bd}, Once l → ∀ key, look (l.filter p) key = (look l key).filter p
  | [], _, _ => rfl
  | x :: l, ⟨h1, h2⟩, key => by
    have ih := look_filter p h2 key
    by_cases c : x.k = key
    · have e : look (x :: l) key = some x := by simp [look, c]
      cases q : p x with
      | true => rw [e, List.filter_cons_of_pos q]; simp [look, c, Option.filter, q]
      | false =>
        rw [e, List.filter_cons_of_neg (by simp [q]), ih]
        have : look l key = none := look_none.2 fun y hy => by have := h1 y hy; omega
        rw [this]; simp [Option.filter, q]
    · have e : look (x :: l) key = look l key := by simp [look, c]
      cases q : p x with
      | true => rw [e, List.filter_cons_of_pos q, ← ih]; simp [look, c]
      | false => rw [e, List.filter_cons_of_neg (by simp [q]), ih]
theorem look_bare : ∀ (l : List Bd) (key : Int), look (l.map fun x => bare x.k) key = if (look l key).isSome then some (bare key) else none
  | [], _ => rfl
  | x :: l, key => by
    have ih := look_bare l key
    by_cases c : x.k = key
    · simp [look, bare, c]
    · rw [List.map_cons, look, look, if_neg c, if_neg (by simpa [bare] using c), ih]
theorem asc_bare : ∀ {l : List Bd}, Asc l → Asc (l.map fun x => bare x.k)
  | [], _ => trivial
  | x :: l, ⟨h1, h2⟩ => ⟨fun y hy => by
      obtain ⟨z, hz, rfl⟩ := List.mem_map.1 hy
      exact h1 z hz, asc_bare h2⟩
/-- Two ascending lists that have the same keys. -/
theorem keys_ext {a b : List Bd} (ha : Asc a) (hb : Asc b) (h : ∀ key, (look a key).isSome = (look b key).isSome) : a.map (·.k) = b.map (·.k) := by
  have e := asc_ext (asc_bare ha) (asc_bare hb) (fun key => by rw [look_bare, look_bare, h])
  have := congrArg (List.map (·.k)) e
  simpa [bare, Function.comp_def] using this
theorem eqB_comm (x y : Bd) : eqB x y = eqB y x := by
  cases c : eqB x y with
  | true => have := eqB_iff.1 c; subst this; exact c.symm
  | false =>
    cases d : eqB y x with
    | true => have := eqB_iff.1 d; subst this; rw [c] at d; cases d
    | false => rfl
theorem chg_comm {A B : List Bd} (hA : Asc A) (hB : Asc B) : chgL A B = chgL B A := by
  refine keys_ext (asc_filter _ hA) (asc_filter _ hB) fun key => ?_
  rw [look_filter _ hA.once, look_filter _ hB.once]
  cases ea : look A key with
  | none =>
    cases eb : look B key with
    | none => rfl
    | some y => have := (look_some eb).2; simp [Option.filter, chgB, this, ea]
  | some x =>
    have hx := (look_some ea).2
    cases eb : look B key with
    | none => simp [Option.filter, chgB, hx, eb]
    | some y =>
      have hy := (look_some eb).2
      simp only [Option.filter, chgB, hx, hy, ea, eb]
      rw [eqB_comm x y]
      cases eqB y x <;> rfl
theorem map_nil {l : List Bd} (p : Bd → Bool) : (l.filter p).map (·.k) = [] ↔ ∀ x ∈ l, p x = false := by
  rw [List.map_eq_nil_iff, List.filter_eq_nil_iff]
  simp
/-- The difference is empty exactly if the views are equal. -/
theorem diff_nil {A B : List Bd} (hA : Asc A) (hB : Asc B) : (remL B A = [] ∧ remL A B = [] ∧ chgL A B = []) ↔ A = B := by
  constructor
  · rintro ⟨h1, h2, h3⟩
    have h1 := (map_nil _).1 h1
    have h2 := (map_nil _).1 h2
    have h3 := (map_nil _).1 h3
    refine asc_ext hA hB fun key => ?_
    cases ea : look A key with
    | none =>
      cases eb : look B key with
      | none => rfl
      | some y =>
        have hy := look_some eb
        have := h1 y hy.1
        rw [hy.2, ea] at this
        cases this
    | some x =>
      have hx := look_some ea
      have q := h2 x hx.1
      have r := h3 x hx.1
      cases eb : look B key with
      | none => rw [hx.2, eb] at q; cases q
      | some y =>
        rw [chg_some (y := y) (by rw [hx.2]; exact eb)] at r
        have := eqB_iff.1 (show eqB y x = true by simpa using r)
        rw [this]
  · rintro rfl
    have g : ∀ x ∈ A, look A x.k = some x := fun x hx => look_mem hA.once hx
    refine ⟨(map_nil _).2 fun x hx => by rw [g x hx]; rfl, (map_nil _).2 fun x hx => by rw [g x hx]; rfl, (map_nil _).2 fun x hx => ?_⟩
    rw [chg_some (g x hx), eqB_iff.2 rfl]
    rfl
/-- How many keys lie below. -/
def lessK (L : List Bd) (key : Int) : Nat := (L.filter fun x => decide (x.k < key)).length
theorem lessK_take {L : List Bd} {k : Nat} {x : Bd} (key : Int) (hx : L[k]? = some x) : lessK (L.take (k + 1)) key = lessK (L.take k) key + if x.k < key then 1 else 0 := by
  rw [List.take_add_one, hx]
  unfold lessK
  rw [List.filter_append, List.length_append]
  congr 1
  by_cases c : x.k < key <;> simp [c]
theorem lessK_le (L : List Bd) (key : Int) : lessK L key ≤ L.length := List.length_filter_le _ _
/-- In an ascending list the bodies with smaller keys stand ahead. -/
theorem lessK_at : ∀ {L : List Bd}, Asc L → ∀ {i : Nat} {x : Bd}, L[i]? = some x → lessK L x.k = i
  | [], _, _, _, h => by simp at h
  | a :: l, ⟨h1, h2⟩, 0, x, h => by
    simp at h
    subst h
    have : (a :: l).filter (fun y => decide (y.k < a.k)) = [] := List.filter_eq_nil_iff.2 fun y hy => by
      rcases List.mem_cons.1 hy with rfl | hy
      · simp
      · have := h1 y hy; simp; omega
    simp [lessK, this]
  | a :: l, ⟨h1, h2⟩, i + 1, x, h => by
    have hx : l[i]? = some x := by simpa using h
    have := h1 x (List.mem_of_getElem? hx)
    have ih := lessK_at h2 hx
    unfold lessK at ih ⊢
    rw [List.filter_cons_of_pos (by simpa using this), List.length_cons, ih]
end Go.Proofs.YtnmnbogjnjbopaaDoor
end

section
/-
  Package view: a list that sorts; parts of a view.
-/
namespace Go.Proofs.YtnmnbogjnjbopaaDoor
open Go.RowKit Go.Lib

theorem firstBad_zero : ∀ {L : List Bd}, firstBad L = 0 ↔ ∀ x ∈ L, chkB x = 0
  | [] => by simp [firstBad]
  | x :: l => by
    unfold firstBad
    by_cases c : chkB x = 0
    · rw [if_neg (by simp [c]), firstBad_zero]; simp [c]
    · rw [if_pos c]
      exact ⟨fun h => absurd h c, fun h => h x (by simp)⟩
theorem eachE_zero {L : List Bd} : eachE L = 0 ↔ L.length ≤ 4096 ∧ ∀ x ∈ L, chkB x = 0 := by
  unfold eachE
  by_cases c : 4096 < L.length
  · rw [if_pos c]; exact ⟨fun h => absurd h (by decide), fun h => by omega⟩
  · rw [if_neg c, firstBad_zero]; exact ⟨fun h => ⟨by omega, h⟩, fun h => h.2⟩
theorem sortE_zero {L : List Bd} (h : sortE L = 0) : eachE L = 0 ∧ (allL L).length = L.length ∧ sortL L = allL L := by
  unfold sortE at h
  unfold sortL
  by_cases c : eachE L = 0
  · have d : ¬ (eachE L ≠ 0) := fun q => q c
    rw [if_neg d] at h ⊢
    by_cases e : (allL L).length < L.length
    · rw [if_pos e] at h; cases h
    · rw [if_neg e]; exact ⟨c, by have := (allL_asc L).2; omega, rfl⟩
  · rw [if_pos c] at h; exact absurd h c
theorem fold_all : ∀ (l m : List Bd), Asc m → (l.foldl addL m).length = m.length + l.length → ∀ y, y ∈ l ∨ y ∈ m → y ∈ l.foldl addL m
  | [], _, _, _, y, h => by rcases h with h | h; (· cases h); exact h
  | x :: l, m, hm, hl, y, h => by
    have a := addL_asc hm x
    have hl' : (l.foldl addL (addL m x)).length = m.length + (l.length + 1) := hl
    have b : ∀ (l m : List Bd), Asc m → (l.foldl addL m).length ≤ m.length + l.length := by
      intro l
      induction l with
      | nil => intro m _; simp
      | cons x l ih => intro m hm; have a := addL_asc hm x; have := ih (addL m x) a.1; simp only [List.foldl_cons, List.length_cons]; omega
    have c := b l (addL m x) a.1
    have e : (addL m x).length = m.length + 1 := by omega
    have p : addL m x = put m x false ∧ look m x.k = none := by
      unfold addL at e ⊢
      by_cases c1 : chkB x = 0
      · rw [if_neg (by simp [c1])] at e ⊢
        by_cases c2 : look m x.k = none
        · rw [if_neg (by simp [c2])] at e ⊢
          by_cases c3 : 4096 ≤ m.length
          · rw [if_pos c3] at e; omega
          · rw [if_neg c3]; exact ⟨rfl, c2⟩
        · rw [if_pos c2] at e; omega
      · rw [if_pos c1] at e; omega
    refine fold_all l (addL m x) a.1 (by omega) y ?_
    rcases h with h | h
    · rcases List.mem_cons.1 h with rfl | h
      · exact .inr (by rw [p.1]; exact (mem_put hm _ _).2 (.inl rfl))
      · exact .inl h
    · exact .inr (by rw [p.1]; exact (mem_put hm _ _).2 (.inr ⟨h, look_none.1 p.2 y h⟩))
theorem sortL_all {L : List Bd} (h : sortE L = 0) {x : Bd} (hx : x ∈ L) : x ∈ sortL L := by
  obtain ⟨_, h2, h3⟩ := sortE_zero h
  rw [h3]
  exact fold_all L [] trivial (by simpa [allL] using h2) x (.inl hx)
theorem sorted_each {L : List Bd} (h : sortE L = 0) : eachE (sortL L) = 0 := by
  have e := eachE_zero.1 (sortE_zero h).1
  exact eachE_zero.2 ⟨by have := (sortL_asc L).2; omega, fun x hx => e.2 x (sortL_mem hx)⟩
theorem sorted_check {L : List Bd} (h : sortE L = 0) : vchkE (sortL L) = 0 := by
  unfold vchkE
  rw [if_neg (by simp [sorted_each h]), if_pos (sortL_asc L).1]
theorem asc_mid : ∀ {m l : List Bd} {x : Bd}, Asc (m ++ x :: l) → Asc m ∧ ∀ y ∈ m, y.k < x.k
  | [], _, _, _ => ⟨trivial, fun _ h => by cases h⟩
  | a :: m, l, x, h => by
    have h' : Asc (a :: (m ++ x :: l)) := h
    have i := asc_mid h'.2
    refine ⟨⟨fun y hy => h'.1 y (by simp [hy]), i.1⟩, fun y hy => ?_⟩
    rcases List.mem_cons.1 hy with rfl | hy
    · exact h'.1 x (by simp)
    · exact i.2 y hy
theorem fold_sorted : ∀ (l m : List Bd), Asc (m ++ l) → (∀ x ∈ l, chkB x = 0) → (m ++ l).length ≤ 4096 → l.foldl addL m = m ++ l
  | [], m, _, _, _ => by simp
  | x :: l, m, h, hv, hl => by
    have i := asc_mid h
    have hlk : look m x.k = none := look_none.2 fun y hy => by have := i.2 y hy; omega
    have e : addL m x = m ++ [x] := by
      unfold addL
      rw [if_neg (by simp [hv x (by simp)]), if_neg (by simp [hlk]), if_neg (by simp at hl; omega), put_eq i.1]
      have f1 : m.filter (fun y => decide (y.k < x.k)) = m := List.filter_eq_self.2 fun y hy => by simpa using i.2 y hy
      have f2 : m.filter (fun y => decide (x.k < y.k)) = [] := List.filter_eq_nil_iff.2 fun y hy => by have := i.2 y hy; simp; omega
      rw [f1, f2]; simp
    rw [List.foldl_cons, e, fold_sorted l (m ++ [x]) (by simpa using h) (fun y hy => hv y (by simp [hy])) (by simpa using hl)]
    simp
theorem sort_view {A : List Bd} (h : Asc A) (he : eachE A = 0) : sortE A = 0 ∧ sortL A = A := by
  have e := eachE_zero.1 he
  have q : allL A = A := by simpa [allL] using fold_sorted A [] h e.2 e.1
  have c1 : ¬ (eachE A ≠ 0) := fun z => z he
  have c2 : ¬ ((allL A).length < A.length) := by rw [q]; omega
  constructor
  · unfold sortE; rw [if_neg c1, if_neg c2]
  · unfold sortL; rw [if_neg c1, if_neg c2, q]
/-- A body of a view: where it stands. -/
theorem at_of_mem {A : List Bd} (h : Asc A) {x : Bd} (hx : x ∈ A) : ∃ j : Nat, A[j]? = some x ∧ lessK A x.k = j ∧ look A x.k = some x := by
  obtain ⟨j, hj⟩ := List.mem_iff_getElem?.1 hx
  exact ⟨j, hj, lessK_at h hj, look_mem h.once hx⟩
theorem sortE_nil {L : List Bd} (h : sortE L ≠ 0) : sortL L = [] := by
  unfold sortE at h
  unfold sortL
  by_cases c : eachE L = 0
  · have d : ¬ (eachE L ≠ 0) := fun q => q c
    rw [if_neg d] at h ⊢
    by_cases e : (allL L).length < L.length
    · rw [if_pos e]
    · rw [if_neg e] at h; exact absurd rfl h
  · rw [if_pos c]

/-! ### parts -/
theorem asc_drop : ∀ (a : Nat) {A : List Bd}, Asc A → Asc (A.drop a)
  | 0, _, h => h
  | _ + 1, [], _ => trivial
  | a + 1, _ :: _, h => asc_drop a h.2
theorem asc_take : ∀ (a : Nat) {A : List Bd}, Asc A → Asc (A.take a)
  | 0, _, _ => by simp [Asc]
  | _ + 1, [], _ => trivial
  | a + 1, x :: l, h => by
    rw [List.take_succ_cons]
    exact ⟨fun y hy => h.1 y (List.mem_of_mem_take hy), asc_take a h.2⟩
theorem part_check {A : List Bd} (h : Asc A) (he : eachE A = 0) (a n : Nat) : vchkE ((A.drop a).take n) = 0 := by
  have e := eachE_zero.1 he
  unfold vchkE
  rw [if_neg, if_pos (asc_take _ (asc_drop _ h))]
  simp only [ne_eq, Decidable.not_not]
  refine eachE_zero.2 ⟨?_, fun x hx => e.2 x (List.mem_of_mem_drop (List.mem_of_mem_take hx))⟩
  rw [List.length_take, List.length_drop]
  omega
theorem asc_lt : ∀ {L : List Bd}, Asc L → ∀ {i j : Nat} {x y : Bd}, L[i]? = some x → L[j]? = some y → i < j → x.k < y.k
  | [], _, _, _, _, _, h, _, _ => by simp at h
  | _ :: _, _, _, 0, _, _, _, _, h => by omega
  | a :: l, h, 0, j + 1, x, y, hx, hy, _ => by
    simp at hx
    subst hx
    exact h.1 y (List.mem_of_getElem? (i := j) (by simpa using hy))
  | a :: l, h, i + 1, j + 1, x, y, hx, hy, hij => asc_lt h.2 (by simpa using hx) (by simpa using hy) (by omega)
theorem part_at {A : List Bd} {a n j : Nat} {y : Bd} (h : ((A.drop a).take n)[j]? = some y) : A[a + j]? = some y ∧ j < n := by
  rw [List.getElem?_take] at h
  split at h
  · exact ⟨by rwa [List.getElem?_drop] at h, by assumption⟩
  · cases h
theorem part_key {A : List Bd} (h : Asc A) {i : Nat} {x : Bd} (hx : A[i]? = some x) {a n j : Nat} {y : Bd} (hy : ((A.drop a).take n)[j]? = some y) : y.k < x.k ↔ a + j < i := by
  have hy2 := (part_at hy).1
  constructor
  · intro q
    by_cases c : i ≤ a + j
    · rcases Nat.lt_or_ge i (a + j) with c2 | c2
      · have := asc_lt h hx hy2 c2; omega
      · have e : i = a + j := by omega
        subst e; rw [hx] at hy2; injection hy2 with hy2; subst hy2; omega
    · omega
  · intro q; exact asc_lt h hy2 hx q
/-- How many keys of a part lie below that of the view's body i. -/
theorem part_less {A : List Bd} (h : Asc A) {i : Nat} {x : Bd} (hx : A[i]? = some x) (a n : Nat) (hn : a + n ≤ A.length) : lessK ((A.drop a).take n) x.k = min (i - a) n := by
  have hl : ((A.drop a).take n).length = n := by rw [List.length_take, List.length_drop]; omega
  have key := fun {j : Nat} {y : Bd} (hy : ((A.drop a).take n)[j]? = some y) => part_key h hx hy
  generalize (A.drop a).take n = P at hl key
  unfold lessK
  have e : P = P.take (i - a) ++ P.drop (i - a) := (List.take_append_drop _ _).symm
  rw [e, List.filter_append, List.filter_eq_self.2, List.filter_eq_nil_iff.2]
  · rw [List.append_nil, List.length_take, hl]
  · intro y hy
    obtain ⟨j, hj⟩ := List.mem_iff_getElem?.1 hy
    rw [List.getElem?_drop] at hj
    have := key hj
    simp only [decide_eq_true_eq]
    omega
  · intro y hy
    obtain ⟨j, hj⟩ := List.mem_iff_getElem?.1 hy
    rw [List.getElem?_take] at hj
    split at hj
    · have := key hj
      simp only [decide_eq_true_eq]
      omega
    · cases hj
theorem part_look {A : List Bd} (h : Asc A) {i : Nat} {x : Bd} (hx : A[i]? = some x) (a n : Nat) : (look ((A.drop a).take n) x.k).isSome = (decide (a ≤ i) && decide (i < a + n)) := by
  have hP : Asc ((A.drop a).take n) := asc_take _ (asc_drop _ h)
  cases c : (decide (a ≤ i) && decide (i < a + n)) with
  | true =>
    simp only [Bool.and_eq_true, decide_eq_true_eq] at c
    have : ((A.drop a).take n)[i - a]? = some x := by
      rw [List.getElem?_take, if_pos (by omega), List.getElem?_drop, show a + (i - a) = i by omega, hx]
    rw [look_mem hP.once (List.mem_of_getElem? this)]
    rfl
  | false =>
    cases lk : look ((A.drop a).take n) x.k with
    | none => rfl
    | some y =>
      obtain ⟨hy, hk⟩ := look_some lk
      obtain ⟨j, hj⟩ := List.mem_iff_getElem?.1 hy
      have q := part_key h hx hj
      have r := part_at hj
      have e : a + j = i := by
        rcases Nat.lt_trichotomy (a + j) i with z | z | z
        · have := q.2 z; omega
        · exact z
        · have := asc_lt h hx r.1 z; omega
      exfalso
      rw [Bool.and_eq_false_iff, decide_eq_false_iff_not, decide_eq_false_iff_not] at c
      omega
end Go.Proofs.YtnmnbogjnjbopaaDoor
end
