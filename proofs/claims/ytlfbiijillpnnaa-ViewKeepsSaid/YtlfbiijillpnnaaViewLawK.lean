/-
  Package view: the law ViewKeeps.
-/
import Derived.Test.YtlfbiijillpnnaaViewLawD
import Derived.Test.YtlfbiijillpnnaaViewMath2
import Derived.Lib.AppendZeros
import Derived.Lib.SliceRun
namespace Go.Proofs.Ytlfbiijillpnnaa
open Go.RowKit Go.Lib

/-- Cells written: none is gone, none is frozen. -/
def Wrote (w w' : World) : Prop := ∀ p : Addr, ((w.cell? p).isSome = true → (w'.cell? p).isSome = true) ∧ w'.frozen? p = w.frozen? p
theorem Wrote.refl (w : World) : Wrote w w := fun _ => ⟨fun h => h, rfl⟩
theorem setc_some7 {w : World} (p q : Addr) (u : Value) (h : (w.cell? q).isSome = true) : ((w.setCell p u).cell? q).isSome = true := by
  by_cases c : p = q
  · subst c; rw [World.cell?_setCell_same' _ _ _ h]; rfl
  · rw [World.cell?_setCell_other (h := c)]; exact h
theorem Wrote.set {w w' : World} (h : Wrote w w') (p : Addr) (u : Value) : Wrote w (w'.setCell p u) := fun q => ⟨fun e => setc_some7 p q u ((h q).1 e), (World.frozen?_setCell _ _ _ _).trans (h q).2⟩
theorem Mine.new {w : World} {B n cap : Nat} {base : Option Addr} {L : List Bd} (h : Mine w B (.slice base n cap) L) {g off : Nat} (e : base = some ⟨g, off, none⟩) : B ≤ g ∧ g < w.heap.size ∧ ∀ j, w.frozen? ⟨g, j, none⟩ = false := h.2 g (by rw [e]; rfl)
theorem flat_one7 : ∀ (D : List Bd), ∀ u ∈ flat D, u.oneCell' = true := fun D u hu => by
  obtain ⟨b, _, hb⟩ := List.mem_flatMap.1 hu
  exact one_cell b u hb
theorem add_off7 (g off j : Nat) : (⟨g, off, none⟩ : Addr).add j = ⟨g, off + j, none⟩ := by unfold Addr.add; split <;> simp_all
theorem flat_len7 : ∀ (D : List Bd), (flat D).length = D.length * 10
  | [] => rfl
  | x :: D => by
    have := flat_len7 D
    have l : (vals x).length = 10 := rfl
    simp only [flat, List.flatMap_cons, List.length_append, l, List.length_cons] at this ⊢
    omega
theorem lst_cells7 {w : World} {a : Addr} {n cap : Nat} {D : List Bd} (h : Lst w (.slice (some a) n cap) D) : ∀ j u, (flat D)[j]? = some u → w.cell? (a.add j) = some u := fun j u hu => by
  rcases h with ⟨rfl, _⟩ | ⟨g, off, c, e, hc⟩
  · simp [flat] at hu
  · injection e with e1 e2 e3
    injection e1 with e1
    subst e1
    have hj : j < (flat D).length := (List.getElem?_eq_some_iff.1 hu).1
    rw [flat_len7] at hj
    have hk : D[j / 10]? = some (D[j / 10]'(by omega)) := List.getElem?_eq_getElem _
    have f := flat_get D (j / 10) _ hk (j % 10) (by omega)
    rw [show j / 10 * 10 + j % 10 = j by omega, hu] at f
    have := hc (j / 10) _ hk (j % 10) (by omega)
    rw [← f] at this
    rw [add_off7, show off + j = off + j / 10 * 10 + j % 10 by omega]
    exact this
/-- Nothing appended to an empty slice. -/
theorem append_none (w : World) (ty : TypeId) (a : Addr) (c : Nat) : (Builtin.append_ #[22, 22] ty #[.slice (some a) 0 0, .slice none 0 c]).run Try.prog w = .ok (.slice (some a) 0 0) w := by
  obtain ⟨i0, hi, hz0, hz1, hz2⟩ := info_parts info_body
  simp [Builtin.append_, run_underlying Try.underlying22, sizeOf, typeInfo, hi, Builtin.lenOf, run_firstCells_none, storeCells]
/-- A list copied behind an empty slice. -/
theorem wpList_copy (W : World) {ops : Array Oper} {rest : List Oper} {o : Oper} {a : Act} {Q : Exit → Act → World → Prop} (hgd : o.guard = none) (s x : Operand)
    (ho : o.op = .call { callee := .builtin .append, args := #[s, x], argTypes := #[22, 22] }) (vx : Value) (D : List Bd)
    (hs : a.eval s = .slice (some ⟨W.heap.size, 0, none⟩) 0 0) (hx : a.eval x = vx) (hl : Lst W vx D) (hn : D.length ≤ 4096)
    (h : ∀ v' w', Lst w' v' D → Kep W.heap.size W w' → wpList Try.prog ops Q rest (a.put o.dst v') w') : wpList Try.prog ops Q (o :: rest) a (W.alloc (.cells #[] 38)) := by
  obtain ⟨b, c, rfl⟩ := hl.shape
  obtain ⟨i0, hi, hz0, hz1, hz2⟩ := info_parts info_body
  cases b with
  | none =>
    have hD : D = [] := by
      rcases hl with ⟨rfl, _⟩ | ⟨g, off, c', e, _⟩
      · rfl
      · injection e with e1; cases e1
    subst hD
    exact Lib.wpList_append_run _ hgd s x _ _ ho _ _ hs hx _ _ (append_none _ _ _ _) (h _ _ (.inl ⟨rfl, _, _, rfl⟩) (Kep.made _ _))
  | some ad =>
    refine wpList_append_own _ hgd s x 22 ho W.heap.size 38 i0 (.agg #[.int .u32 0, .int .i32 0, .int .i32 0, .int .i32 0, .int .i32 0, .int .i32 0, .int .i32 0, .int .i32 0, .int .i32 0, .int .i32 0]) 10 40 Try.underlying22 hi hz0 hz1 hz2 rfl (by decide) _ _ _ hs (World.ownsRow_made W #[] 0 (Nat.le_refl _) (Nat.zero_le _) (by simp)) ad D.length c (flat D) hx (flat_len7 D) (fun j u hj => cell?_alloc_some _ (lst_cells7 hl j u hj)) (flat_one7 D) (by rw [Nat.zero_add]; unfold maxLen; omega) (by rw [Nat.zero_add]; omega) (by simp) fun v' w' hown hgrow _ => ?_
    have hown' : w'.ownsRow W.heap.size 38 10 v' D.length (flat D) := by simpa using hown
    exact h v' w' (own_lst hown') (Kep.of_below (((Below.refl _ W).alloc (Nat.le_refl _) _).grown hgrow (by simp) (by intro k hk; simp [Value.ownBlock] at hk; omega)))
set_option maxRecDepth 100000 in
set_option maxHeartbeats 1000000 in
theorem vkl_long1 (AW : VAwake) (b1 b2 : Option Addr) (c1 c2 n1 n2 : Nat) (w : World) (hl : (100 : Int) < (n1 : Int)) : Calls Try.prog 6 #[.slice b1 n1 c1, .slice b2 n2 c2] w fun e w' => e = .returned (.bool true) ∧ Kep w.heap.size w w' := by
  replace AW := Lib.hid AW
  go_enter Try.func6, Try.ntmps6
  go_wp2_with (first
    | ((with_reducible refine (AW.out _).mono ?_); rintro e w2 ⟨rfl, k2⟩; have K2 := Lib.hid (K1.out.next k2))
    | ((with_reducible refine (AW.out _).mono ?_); rintro e w1 ⟨rfl, k1⟩; have K1 := Lib.hid k1))
  go_ret
  exact ⟨rfl, K2.out⟩
set_option maxRecDepth 100000 in
set_option maxHeartbeats 1000000 in
theorem vkl_long2 (AW : VAwake) (b1 b2 : Option Addr) (c1 c2 n1 n2 : Nat) (w : World) (hs : (n1 : Int) ≤ 100) (hl : (100 : Int) < (n2 : Int)) : Calls Try.prog 6 #[.slice b1 n1 c1, .slice b2 n2 c2] w fun e w' => e = .returned (.bool true) ∧ Kep w.heap.size w w' := by
  replace AW := Lib.hid AW
  go_enter Try.func6, Try.ntmps6
  go_wp2_with (first
    | ((with_reducible refine (AW.out _).mono ?_); rintro e w2 ⟨rfl, k2⟩; have K2 := Lib.hid (K1.out.next k2))
    | ((with_reducible refine (AW.out _).mono ?_); rintro e w1 ⟨rfl, k1⟩; have K1 := Lib.hid k1))
  go_ret
  exact ⟨rfl, K2.out⟩
set_option maxRecDepth 100000 in
set_option maxHeartbeats 4000000 in
theorem vkl_bad1 (AW : VAwake) (O : VOps) (b1 b2 : Option Addr) (c1 c2 n1 n2 : Nat) (w : World) (hs1 : (n1 : Int) ≤ 100) (hs2 : (n2 : Int) ≤ 100) (e1 e2 : Int) (h1 : (e1 != 0) = true) (L A B : List Bd) (hL : L.length = n1) (fL : Fit L) (H1 : Lst w (.slice b1 n1 c1) L) (se : sortE L = e1) (sl : sortL L = A) (fA : Fit A) (fB : Fit B) (aA : Asc A) (aB : Asc B) (lA : A.length ≤ 100) (lB : B.length ≤ 100) (S1 : VS w (.slice b1 n1 c1) e1 A) (S2 : VS w (.slice b2 n2 c2) e2 B) : Calls Try.prog 6 #[.slice b1 n1 c1, .slice b2 n2 c2] w fun e w' => e = .returned (.bool true) ∧ Kep w.heap.size w w' := by
  have hn : L.length ≤ 4096 := by omega
  obtain ⟨p, hp⟩ : ∃ p, p = A.length := ⟨_, rfl⟩
  have HA := Lib.hid hp.symm
  have hp1 : (p : Int) ≤ 100 := by omega
  obtain ⟨q, hq⟩ : ∃ q, q = B.length := ⟨_, rfl⟩
  have HB := Lib.hid hq.symm
  have hq1 : (q : Int) ≤ 100 := by omega
  have H := Lib.hid H1
  have OS := Lib.hid (fun v w (h : Lst w v L) => O.sort v L w h fL (by omega))
  have OC := Lib.hid (fun v w (h : Lst w v L) => O.check v L w h fL (by omega))
  have SM := Lib.hid (fun v1 v2 w (h1 : Lst w v1 L) (h2 : Lst w v2 L) => same_any v1 v2 L w h1 h2 (by omega))
  have SA := Lib.hid (fun v1 v2 w (h1 : Lst w v1 A) (h2 : Lst w v2 A) => same_any v1 v2 A w h1 h2 (by omega))
  have SB := Lib.hid (fun v1 v2 w (h1 : Lst w v1 B) (h2 : Lst w v2 B) => same_any v1 v2 B w h1 h2 (by omega))
  have OD := Lib.hid (fun v1 v2 w (h1 : Lst w v1 A) (h2 : Lst w v2 B) => O.diff v1 v2 A B w h1 h2 fA fB (by omega) (by omega) aA aB)
  have OA := Lib.hid (fun v1 v2 v3 w (h1 : Lst w v1 A) (h2 : Lst w v2 B) (h3 : CLst w v3 (diffC A B)) => O.apply v1 v2 v3 A B w h1 h2 h3 fA fB (by omega) (by omega) aA aB)
  have HN := Lib.hid hn
  replace AW := Lib.hid AW
  replace S1 := Lib.hid S1
  replace S2 := Lib.hid S2
  rw [se, sl] at OS
  generalize vchkE L = ec at OC
  generalize diffC A B = D at OD OA
  clear O fL H1 se sl fA fB aA aB lA lB hn hp hq hL
  go_enter Try.func6, Try.ntmps6
  go_wp2_with (first
    | ((with_reducible refine (AW.out _).mono ?_); rintro e w1 ⟨rfl, k1⟩; have K1 := Lib.hid k1; have L1 := Lib.hid (H.out.kep k1); clear k1)
    | (at_builtin; refine wpList_copy _ rfl _ _ rfl _ L rfl rfl L1.out HN.out fun v5 w2 l5 k2 => ?_; have L5 := Lib.hid l5; have K2 := Lib.hid (K1.out.next k2); clear l5 k2)
    | ((with_reducible refine (OS.out _ _ L5.out).mono ?_); rintro e w3 ⟨v6, rfl, m6, k3⟩; obtain ⟨b6, c6, hv6⟩ := m6.1.shape; rw [HA.out] at hv6; subst hv6; have M6 := Lib.hid m6; have K3 := Lib.hid k3; clear m6 k3))
  go_loopw [8] (fun i wr => ∃ k : Nat, k ≤ p ∧ i = .int .i64 k ∧ Hid (Kep w2.heap.size w3 wr ∧ Wrote w3 wr)) (fun i _ => p - (RowKit.intOf i).toNat)
  case atStart => exact ⟨0, Nat.zero_le _, rfl, Lib.hid ⟨Kep.refl _ _, Wrote.refl _⟩⟩
  case round =>
    obtain ⟨wl, hwr⟩ : ∃ x, x = wr := ⟨_, rfl⟩
    subst hwr
    obtain ⟨k, hk, rfl, HJ⟩ := hrel
    by_cases hlt : k < p
    · have hb : A[k]? = some (A[k]'(by rw [HA.out]; exact hlt)) := List.getElem?_eq_getElem _
      generalize A[k]'(by rw [HA.out]; exact hlt) = x at hb
      obtain ⟨g, off, hbase, hc⟩ := Lst.at_ M6.out.1 hb
      obtain ⟨hg1, hg2, hg3⟩ := Mine.new M6.out hbase
      subst hbase
      have i0 : (0 : Int) ≤ (k : Int) := Int.natCast_nonneg _
      have i1 : (k : Int) < (p : Int) := by omega
      have x1 : w3.cell? ⟨g, off + k * 10 + 1, none⟩ = some (.int .i32 x.r) := hc 1 (by omega)
      obtain ⟨u, hu⟩ := Option.isSome_iff_exists.1 ((HJ.out.2 ⟨g, off + k * 10 + 1, none⟩).1 (by rw [x1]; rfl))
      have hz : wl.frozen? ⟨g, off + k * 10 + 1, none⟩ = false := (HJ.out.2 _).2.trans (hg3 _)
      clear hb hc x1 hg3
      go_wp2
      go_roundw
      case rel => exact ⟨k + 1, by omega, by go_num, Lib.hid ⟨HJ.out.1.setCell hg1 _, HJ.out.2.set _ _⟩⟩
      case measure => simp [RowKit.intOf]; omega
    · have J3 := Lib.hid HJ.out.1
      clear HJ
      have K23 : Hid (Kep w2.heap.size w2 wl) := Lib.hid (K3.out.trans J3.out)
      have K4 := Lib.hid (K2.out.next K23.out)
      have L54 := Lib.hid (L5.out.kep K23.out)
      go_wp2_with (first
        | ((with_reducible refine (OC.out _ _ L54.out).mono ?_); rintro e w5 ⟨rfl, k5⟩; have K5 := Lib.hid (K4.out.next k5); have L55 := Lib.hid (L54.out.kep k5); clear k5)
        | ((with_reducible refine (S1.out _ K5.out).mono ?_); rintro e w6 ⟨v9, rfl, l9, k6⟩; have K6 := Lib.hid (K5.out.next k6); have L56 := Lib.hid (L55.out.kep k6); have L9 := Lib.hid l9; clear l9 k6)
        | ((with_reducible refine (S2.out _ K6.out).mono ?_); rintro e w7 ⟨v11, rfl, l11, k7⟩; have K7 := Lib.hid (K6.out.next k7); have L57 := Lib.hid (L56.out.kep k7); have L97 := Lib.hid (L9.out.kep k7); have L11 := Lib.hid l11; clear l11 k7)
        | ((with_reducible refine (SM.out _ _ _ L57.out (H.out.kep K7.out)).mono ?_); rintro e w8 ⟨rfl, k8⟩; have K8 := Lib.hid (K7.out.next k8); clear k8))
      go_ret
      exact ⟨rfl, K8.out⟩
set_option maxRecDepth 100000 in
set_option maxHeartbeats 4000000 in
theorem vkl_bad2 (AW : VAwake) (O : VOps) (b1 b2 : Option Addr) (c1 c2 n1 n2 : Nat) (w : World) (hs1 : (n1 : Int) ≤ 100) (hs2 : (n2 : Int) ≤ 100) (e1 e2 : Int) (h1 : (e1 != 0) = false) (h2 : (e2 != 0) = true) (L A B : List Bd) (hL : L.length = n1) (fL : Fit L) (H1 : Lst w (.slice b1 n1 c1) L) (se : sortE L = e1) (sl : sortL L = A) (fA : Fit A) (fB : Fit B) (aA : Asc A) (aB : Asc B) (lA : A.length ≤ 100) (lB : B.length ≤ 100) (S1 : VS w (.slice b1 n1 c1) e1 A) (S2 : VS w (.slice b2 n2 c2) e2 B) : Calls Try.prog 6 #[.slice b1 n1 c1, .slice b2 n2 c2] w fun e w' => e = .returned (.bool true) ∧ Kep w.heap.size w w' := by
  have hn : L.length ≤ 4096 := by omega
  obtain ⟨p, hp⟩ : ∃ p, p = A.length := ⟨_, rfl⟩
  have HA := Lib.hid hp.symm
  have hp1 : (p : Int) ≤ 100 := by omega
  obtain ⟨q, hq⟩ : ∃ q, q = B.length := ⟨_, rfl⟩
  have HB := Lib.hid hq.symm
  have hq1 : (q : Int) ≤ 100 := by omega
  have H := Lib.hid H1
  have OS := Lib.hid (fun v w (h : Lst w v L) => O.sort v L w h fL (by omega))
  have OC := Lib.hid (fun v w (h : Lst w v L) => O.check v L w h fL (by omega))
  have SM := Lib.hid (fun v1 v2 w (h1 : Lst w v1 L) (h2 : Lst w v2 L) => same_any v1 v2 L w h1 h2 (by omega))
  have SA := Lib.hid (fun v1 v2 w (h1 : Lst w v1 A) (h2 : Lst w v2 A) => same_any v1 v2 A w h1 h2 (by omega))
  have SB := Lib.hid (fun v1 v2 w (h1 : Lst w v1 B) (h2 : Lst w v2 B) => same_any v1 v2 B w h1 h2 (by omega))
  have OD := Lib.hid (fun v1 v2 w (h1 : Lst w v1 A) (h2 : Lst w v2 B) => O.diff v1 v2 A B w h1 h2 fA fB (by omega) (by omega) aA aB)
  have OA := Lib.hid (fun v1 v2 v3 w (h1 : Lst w v1 A) (h2 : Lst w v2 B) (h3 : CLst w v3 (diffC A B)) => O.apply v1 v2 v3 A B w h1 h2 h3 fA fB (by omega) (by omega) aA aB)
  have HN := Lib.hid hn
  replace AW := Lib.hid AW
  replace S1 := Lib.hid S1
  replace S2 := Lib.hid S2
  rw [se, sl] at OS
  generalize vchkE L = ec at OC
  generalize diffC A B = D at OD OA
  clear O fL H1 se sl fA fB aA aB lA lB hn hp hq hL
  go_enter Try.func6, Try.ntmps6
  go_wp2_with (first
    | ((with_reducible refine (AW.out _).mono ?_); rintro e w1 ⟨rfl, k1⟩; have K1 := Lib.hid k1; have L1 := Lib.hid (H.out.kep k1); clear k1)
    | (at_builtin; refine wpList_copy _ rfl _ _ rfl _ L rfl rfl L1.out HN.out fun v5 w2 l5 k2 => ?_; have L5 := Lib.hid l5; have K2 := Lib.hid (K1.out.next k2); clear l5 k2)
    | ((with_reducible refine (OS.out _ _ L5.out).mono ?_); rintro e w3 ⟨v6, rfl, m6, k3⟩; obtain ⟨b6, c6, hv6⟩ := m6.1.shape; rw [HA.out] at hv6; subst hv6; have M6 := Lib.hid m6; have K3 := Lib.hid k3; clear m6 k3))
  go_loopw [8] (fun i wr => ∃ k : Nat, k ≤ p ∧ i = .int .i64 k ∧ Hid (Kep w2.heap.size w3 wr ∧ Wrote w3 wr)) (fun i _ => p - (RowKit.intOf i).toNat)
  case atStart => exact ⟨0, Nat.zero_le _, rfl, Lib.hid ⟨Kep.refl _ _, Wrote.refl _⟩⟩
  case round =>
    obtain ⟨wl, hwr⟩ : ∃ x, x = wr := ⟨_, rfl⟩
    subst hwr
    obtain ⟨k, hk, rfl, HJ⟩ := hrel
    by_cases hlt : k < p
    · have hb : A[k]? = some (A[k]'(by rw [HA.out]; exact hlt)) := List.getElem?_eq_getElem _
      generalize A[k]'(by rw [HA.out]; exact hlt) = x at hb
      obtain ⟨g, off, hbase, hc⟩ := Lst.at_ M6.out.1 hb
      obtain ⟨hg1, hg2, hg3⟩ := Mine.new M6.out hbase
      subst hbase
      have i0 : (0 : Int) ≤ (k : Int) := Int.natCast_nonneg _
      have i1 : (k : Int) < (p : Int) := by omega
      have x1 : w3.cell? ⟨g, off + k * 10 + 1, none⟩ = some (.int .i32 x.r) := hc 1 (by omega)
      obtain ⟨u, hu⟩ := Option.isSome_iff_exists.1 ((HJ.out.2 ⟨g, off + k * 10 + 1, none⟩).1 (by rw [x1]; rfl))
      have hz : wl.frozen? ⟨g, off + k * 10 + 1, none⟩ = false := (HJ.out.2 _).2.trans (hg3 _)
      clear hb hc x1 hg3
      go_wp2
      go_roundw
      case rel => exact ⟨k + 1, by omega, by go_num, Lib.hid ⟨HJ.out.1.setCell hg1 _, HJ.out.2.set _ _⟩⟩
      case measure => simp [RowKit.intOf]; omega
    · have J3 := Lib.hid HJ.out.1
      clear HJ
      have K23 : Hid (Kep w2.heap.size w2 wl) := Lib.hid (K3.out.trans J3.out)
      have K4 := Lib.hid (K2.out.next K23.out)
      have L54 := Lib.hid (L5.out.kep K23.out)
      go_wp2_with (first
        | ((with_reducible refine (OC.out _ _ L54.out).mono ?_); rintro e w5 ⟨rfl, k5⟩; have K5 := Lib.hid (K4.out.next k5); have L55 := Lib.hid (L54.out.kep k5); clear k5)
        | ((with_reducible refine (S1.out _ K5.out).mono ?_); rintro e w6 ⟨v9, rfl, l9, k6⟩; have K6 := Lib.hid (K5.out.next k6); have L56 := Lib.hid (L55.out.kep k6); have L9 := Lib.hid l9; clear l9 k6)
        | ((with_reducible refine (S2.out _ K6.out).mono ?_); rintro e w7 ⟨v11, rfl, l11, k7⟩; have K7 := Lib.hid (K6.out.next k7); have L57 := Lib.hid (L56.out.kep k7); have L97 := Lib.hid (L9.out.kep k7); have L11 := Lib.hid l11; clear l11 k7)
        | ((with_reducible refine (SM.out _ _ _ L57.out (H.out.kep K7.out)).mono ?_); rintro e w8 ⟨rfl, k8⟩; have K8 := Lib.hid (K7.out.next k8); clear k8))
      go_ret
      exact ⟨rfl, K8.out⟩
set_option maxRecDepth 100000 in
set_option maxHeartbeats 4000000 in
theorem vkl_main (AW : VAwake) (O : VOps) (b1 b2 : Option Addr) (c1 c2 n1 n2 : Nat) (w : World) (hs1 : (n1 : Int) ≤ 100) (hs2 : (n2 : Int) ≤ 100)  (L A B : List Bd) (hL : L.length = n1) (fL : Fit L) (H1 : Lst w (.slice b1 n1 c1) L) (se : sortE L = 0) (sl : sortL L = A) (fA : Fit A) (fB : Fit B) (aA : Asc A) (aB : Asc B) (lA : A.length ≤ 100) (lB : B.length ≤ 100) (S1 : VS w (.slice b1 n1 c1) 0 A) (S2 : VS w (.slice b2 n2 c2) 0 B) : Calls Try.prog 6 #[.slice b1 n1 c1, .slice b2 n2 c2] w fun e w' => e = .returned (.bool true) ∧ Kep w.heap.size w w' := by
  have hn : L.length ≤ 4096 := by omega
  obtain ⟨p, hp⟩ : ∃ p, p = A.length := ⟨_, rfl⟩
  have HA := Lib.hid hp.symm
  have hp1 : (p : Int) ≤ 100 := by omega
  obtain ⟨q, hq⟩ : ∃ q, q = B.length := ⟨_, rfl⟩
  have HB := Lib.hid hq.symm
  have hq1 : (q : Int) ≤ 100 := by omega
  have H := Lib.hid H1
  have OS := Lib.hid (fun v w (h : Lst w v L) => O.sort v L w h fL (by omega))
  have OC := Lib.hid (fun v w (h : Lst w v L) => O.check v L w h fL (by omega))
  have SM := Lib.hid (fun v1 v2 w (h1 : Lst w v1 L) (h2 : Lst w v2 L) => same_any v1 v2 L w h1 h2 (by omega))
  have SA := Lib.hid (fun v1 v2 w (h1 : Lst w v1 A) (h2 : Lst w v2 A) => same_any v1 v2 A w h1 h2 (by omega))
  have SB := Lib.hid (fun v1 v2 w (h1 : Lst w v1 B) (h2 : Lst w v2 B) => same_any v1 v2 B w h1 h2 (by omega))
  have OD := Lib.hid (fun v1 v2 w (h1 : Lst w v1 A) (h2 : Lst w v2 B) => O.diff v1 v2 A B w h1 h2 fA fB (by omega) (by omega) aA aB)
  have OA := Lib.hid (fun v1 v2 v3 w (h1 : Lst w v1 A) (h2 : Lst w v2 B) (h3 : CLst w v3 (diffC A B)) => O.apply v1 v2 v3 A B w h1 h2 h3 fA fB (by omega) (by omega) aA aB)
  have HN := Lib.hid hn
  replace AW := Lib.hid AW
  replace S1 := Lib.hid S1
  replace S2 := Lib.hid S2
  rw [se, sl] at OS
  generalize vchkE L = ec at OC
  generalize diffC A B = D at OD OA
  clear O fL H1 se sl fA fB aA aB lA lB hn hp hq hL
  go_enter Try.func6, Try.ntmps6
  go_wp2_with (first
    | ((with_reducible refine (AW.out _).mono ?_); rintro e w1 ⟨rfl, k1⟩; have K1 := Lib.hid k1; have L1 := Lib.hid (H.out.kep k1); clear k1)
    | (at_builtin; refine wpList_copy _ rfl _ _ rfl _ L rfl rfl L1.out HN.out fun v5 w2 l5 k2 => ?_; have L5 := Lib.hid l5; have K2 := Lib.hid (K1.out.next k2); clear l5 k2)
    | ((with_reducible refine (OS.out _ _ L5.out).mono ?_); rintro e w3 ⟨v6, rfl, m6, k3⟩; obtain ⟨b6, c6, hv6⟩ := m6.1.shape; rw [HA.out] at hv6; subst hv6; have M6 := Lib.hid m6; have K3 := Lib.hid k3; clear m6 k3))
  go_loopw [8] (fun i wr => ∃ k : Nat, k ≤ p ∧ i = .int .i64 k ∧ Hid (Kep w2.heap.size w3 wr ∧ Wrote w3 wr)) (fun i _ => p - (RowKit.intOf i).toNat)
  case atStart => exact ⟨0, Nat.zero_le _, rfl, Lib.hid ⟨Kep.refl _ _, Wrote.refl _⟩⟩
  case round =>
    obtain ⟨wl, hwr⟩ : ∃ x, x = wr := ⟨_, rfl⟩
    subst hwr
    obtain ⟨k, hk, rfl, HJ⟩ := hrel
    by_cases hlt : k < p
    · have hb : A[k]? = some (A[k]'(by rw [HA.out]; exact hlt)) := List.getElem?_eq_getElem _
      generalize A[k]'(by rw [HA.out]; exact hlt) = x at hb
      obtain ⟨g, off, hbase, hc⟩ := Lst.at_ M6.out.1 hb
      obtain ⟨hg1, hg2, hg3⟩ := Mine.new M6.out hbase
      subst hbase
      have i0 : (0 : Int) ≤ (k : Int) := Int.natCast_nonneg _
      have i1 : (k : Int) < (p : Int) := by omega
      have x1 : w3.cell? ⟨g, off + k * 10 + 1, none⟩ = some (.int .i32 x.r) := hc 1 (by omega)
      obtain ⟨u, hu⟩ := Option.isSome_iff_exists.1 ((HJ.out.2 ⟨g, off + k * 10 + 1, none⟩).1 (by rw [x1]; rfl))
      have hz : wl.frozen? ⟨g, off + k * 10 + 1, none⟩ = false := (HJ.out.2 _).2.trans (hg3 _)
      clear hb hc x1 hg3
      go_wp2
      go_roundw
      case rel => exact ⟨k + 1, by omega, by go_num, Lib.hid ⟨HJ.out.1.setCell hg1 _, HJ.out.2.set _ _⟩⟩
      case measure => simp [RowKit.intOf]; omega
    · have J3 := Lib.hid HJ.out.1
      clear HJ
      have K23 : Hid (Kep w2.heap.size w2 wl) := Lib.hid (K3.out.trans J3.out)
      have K4 := Lib.hid (K2.out.next K23.out)
      have L54 := Lib.hid (L5.out.kep K23.out)
      go_wp2_with (first
        | ((with_reducible refine (OC.out _ _ L54.out).mono ?_); rintro e w5 ⟨rfl, k5⟩; have K5 := Lib.hid (K4.out.next k5); have L55 := Lib.hid (L54.out.kep k5); clear k5)
        | ((with_reducible refine (S1.out _ K5.out).mono ?_); rintro e w6 ⟨v9, rfl, l9, k6⟩; have K6 := Lib.hid (K5.out.next k6); have L56 := Lib.hid (L55.out.kep k6); have L9 := Lib.hid l9; clear l9 k6)
        | ((with_reducible refine (S2.out _ K6.out).mono ?_); rintro e w7 ⟨v11, rfl, l11, k7⟩; have K7 := Lib.hid (K6.out.next k7); have L57 := Lib.hid (L56.out.kep k7); have L97 := Lib.hid (L9.out.kep k7); have L11 := Lib.hid l11; clear l11 k7)
        | ((with_reducible refine (OD.out _ _ _ L97.out L11.out).mono ?_); rintro e w8 ⟨v75, rfl, d8, k8⟩; have K8 := Lib.hid (K7.out.next k8); have D8 := Lib.hid d8; have L98 := Lib.hid (L97.out.kep k8); have L118 := Lib.hid (L11.out.kep k8); have L58 := Lib.hid (L57.out.kep k8); clear d8 k8)
        | ((with_reducible refine (OA.out _ _ _ _ L98.out L118.out D8.out).mono ?_); rintro e w9 ⟨v13, rfl, m13, k9⟩; obtain ⟨b13, c13, hv13⟩ := m13.1.shape; rw [HB.out] at hv13; subst hv13; have M13 := Lib.hid m13; have K9 := Lib.hid k9; clear m13 k9))
      go_loopw [14] (fun i wr => ∃ k : Nat, k ≤ q ∧ i = .int .i64 k ∧ Hid (Kep w8.heap.size w9 wr ∧ Wrote w9 wr)) (fun i _ => q - (RowKit.intOf i).toNat)
      case atStart => exact ⟨0, Nat.zero_le _, rfl, Lib.hid ⟨Kep.refl _ _, Wrote.refl _⟩⟩
      case round =>
        obtain ⟨wm, hwr⟩ : ∃ x, x = wr := ⟨_, rfl⟩
        subst hwr
        obtain ⟨k, hk, rfl, HJ⟩ := hrel
        by_cases hlt : k < q
        · have hb : B[k]? = some (B[k]'(by rw [HB.out]; exact hlt)) := List.getElem?_eq_getElem _
          generalize B[k]'(by rw [HB.out]; exact hlt) = x at hb
          obtain ⟨g, off, hbase, hc⟩ := Lst.at_ M13.out.1 hb
          obtain ⟨hg1, hg2, hg3⟩ := Mine.new M13.out hbase
          subst hbase
          have i0 : (0 : Int) ≤ (k : Int) := Int.natCast_nonneg _
          have i1 : (k : Int) < (q : Int) := by omega
          have x1 : w9.cell? ⟨g, off + k * 10 + 1, none⟩ = some (.int .i32 x.r) := hc 1 (by omega)
          obtain ⟨u, hu⟩ := Option.isSome_iff_exists.1 ((HJ.out.2 ⟨g, off + k * 10 + 1, none⟩).1 (by rw [x1]; rfl))
          have hz : wm.frozen? ⟨g, off + k * 10 + 1, none⟩ = false := (HJ.out.2 _).2.trans (hg3 _)
          clear hb hc x1 hg3
          go_wp2
          go_roundw
          case rel => exact ⟨k + 1, by omega, by go_num, Lib.hid ⟨HJ.out.1.setCell hg1 _, HJ.out.2.set _ _⟩⟩
          case measure => simp [RowKit.intOf]; omega
        · have J9 := Lib.hid HJ.out.1
          clear HJ
          have K89 : Hid (Kep w8.heap.size w8 wm) := Lib.hid (K9.out.trans J9.out)
          have K10 := Lib.hid (K8.out.next K89.out)
          have L510 := Lib.hid (L58.out.kep K89.out)
          have L910 := Lib.hid (L98.out.kep K89.out)
          have L1110 := Lib.hid (L118.out.kep K89.out)
          go_wp2_with (first
            | ((with_reducible refine (S1.out _ K10.out).mono ?_); rintro e w11 ⟨v15, rfl, l15, k11⟩; have K11 := Lib.hid (K10.out.next k11); have L511 := Lib.hid (L510.out.kep k11); have L911 := Lib.hid (L910.out.kep k11); have L1111 := Lib.hid (L1110.out.kep k11); have L15 := Lib.hid l15; clear l15 k11)
            | ((with_reducible refine (S2.out _ K11.out).mono ?_); rintro e w12 ⟨v17, rfl, l17, k12⟩; have K12 := Lib.hid (K11.out.next k12); have L512 := Lib.hid (L511.out.kep k12); have L912 := Lib.hid (L911.out.kep k12); have L1112 := Lib.hid (L1111.out.kep k12); have L152 := Lib.hid (L15.out.kep k12); have L17 := Lib.hid l17; clear l17 k12)
            | ((with_reducible refine (SM.out _ _ _ L512.out (H.out.kep K12.out)).mono ?_); rintro e w13 ⟨rfl, k13⟩; have K13 := Lib.hid k13; clear k13)
            | ((with_reducible refine (SA.out _ _ _ (L912.out.kep K13.out) (L152.out.kep K13.out)).mono ?_); rintro e w14 ⟨rfl, k14⟩; have K14 := Lib.hid (K13.out.next k14); clear k14)
            | ((with_reducible refine (SB.out _ _ _ (L1112.out.kep K14.out) (L17.out.kep K14.out)).mono ?_); rintro e w15 ⟨rfl, k15⟩; have K15 := Lib.hid (K14.out.next k15); clear k15))
          go_ret
          exact ⟨rfl, K12.out.next K15.out⟩
/-- The law ViewKeeps. -/
theorem vkl_all (AW : VAwake) (O : VOps) (v1 v2 : Value) (L M : List Bd) (w : World) (h1 : Lst w v1 L) (h2 : Lst w v2 M) (f1 : Fit L) (f2 : Fit M) : Calls Try.prog 6 #[v1, v2] w fun e w' => e = .returned (.bool true) ∧ Kep w.heap.size w w' := by
  obtain ⟨b1, c1, rfl⟩ := h1.shape
  obtain ⟨b2, c2, rfl⟩ := h2.shape
  by_cases l1 : 100 < L.length
  · exact vkl_long1 AW b1 b2 c1 c2 _ _ w (by omega)
  by_cases l2 : 100 < M.length
  · exact vkl_long2 AW b1 b2 c1 c2 _ _ w (by omega) (by omega)
  have S1 := vs_of h1 (by omega)
  have S2 := vs_of h2 (by omega)
  have a1 := sortL_asc L
  have a2 := sortL_asc M
  by_cases e1 : sortE L = 0
  rotate_left
  · exact vkl_bad1 AW O b1 b2 c1 c2 _ _ w (by omega) (by omega) _ _ (bne_iff_ne.2 e1) L _ _ rfl f1 h1 rfl rfl (sortL_fits f1) (sortL_fits f2) a1.1 a2.1 (by omega) (by omega) S1 S2
  by_cases e2 : sortE M = 0
  rotate_left
  · exact vkl_bad2 AW O b1 b2 c1 c2 _ _ w (by omega) (by omega) _ _ (by rw [e1]; rfl) (bne_iff_ne.2 e2) L _ _ rfl f1 h1 rfl rfl (sortL_fits f1) (sortL_fits f2) a1.1 a2.1 (by omega) (by omega) S1 S2
  rw [e1] at S1
  rw [e2] at S2
  exact vkl_main AW O b1 b2 c1 c2 _ _ w (by omega) (by omega) L _ _ rfl f1 h1 e1 rfl (sortL_fits f1) (sortL_fits f2) a1.1 a2.1 (by omega) (by omega) S1 S2
end Go.Proofs.Ytlfbiijillpnnaa
