/-
  Package view: the law ViewParts.
-/
import Derived.Test.YtlfbiijillpnnaaViewLawD
import Derived.Test.YtlfbiijillpnnaaViewMath2
namespace Go.Proofs.Ytlfbiijillpnnaa
open Go.RowKit Go.Lib

set_option maxRecDepth 100000 in
set_option maxHeartbeats 1000000 in
theorem vpl_long (AW : VAwake) (b1 : Option Addr) (c1 n1 : Nat) (p q : Int) (w : World) (hl : (100 : Int) < (n1 : Int)) : Calls Try.prog 7 #[.slice b1 n1 c1, .int .u8 p, .int .u8 q] w fun e w' => e = .returned (.bool true) ∧ Kep w.heap.size w w' := by
  replace AW := Lib.hid AW
  go_enter Try.func7, Try.ntmps7
  go_wp2_with (first
    | ((with_reducible refine (AW.out _).mono ?_); rintro e w2 ⟨rfl, k2⟩; have K2 := Lib.hid (K1.out.next k2))
    | ((with_reducible refine (AW.out _).mono ?_); rintro e w1 ⟨rfl, k1⟩; have K1 := Lib.hid k1))
  go_ret
  exact ⟨rfl, K2.out⟩
set_option maxRecDepth 100000 in
set_option maxHeartbeats 1000000 in
theorem vpl_bad (AW : VAwake) (b1 : Option Addr) (c1 n1 : Nat) (p q : Int) (w : World) (hs : (n1 : Int) ≤ 100) (e1 : Int) (h1 : (e1 != 0) = true) (A : List Bd) (S1 : VS w (.slice b1 n1 c1) e1 A) : Calls Try.prog 7 #[.slice b1 n1 c1, .int .u8 p, .int .u8 q] w fun e w' => e = .returned (.bool true) ∧ Kep w.heap.size w w' := by
  replace AW := Lib.hid AW
  replace S1 := Lib.hid S1
  go_enter Try.func7, Try.ntmps7
  go_wp2_with (first
    | ((with_reducible refine (AW.out _).mono ?_); rintro e w1 ⟨rfl, k1⟩; have K1 := Lib.hid k1; clear k1)
    | ((with_reducible refine (S1.out _ K1.out).mono ?_); rintro e w2 ⟨v7, rfl, l7, k2⟩; have K2 := Lib.hid (K1.out.next k2); clear k2 l7))
  go_ret
  exact ⟨rfl, K2.out⟩
/-- The reference's sorting, with room. -/
abbrev VR (w : World) (v : Value) (c : Int) (A : List Bd) (n : Nat) : Prop := ∀ w', Kep w.heap.size w w' → Calls Try.prog 10 #[v] w' fun e w2 => ∃ b' c', e = .returned (.tuple #[.slice b' n c', .int .i64 c]) ∧ n ≤ c' ∧ Lst w2 (.slice b' n c') A ∧ Kep w'.heap.size w' w2
theorem vr_of {w : World} {v : Value} {L : List Bd} (h : Lst w v L) (hl : L.length ≤ 1000000) : VR w v (sortE L) (sortL L) (sortL L).length := fun w' g => (rsort_any v L w' (h.kep g) hl).mono fun _ _ ⟨v', h1, h2, h3⟩ => by
  obtain ⟨b, c, rfl⟩ := h2.1.shape
  exact ⟨b, c, h1, h2.2.2 _ _ _ rfl, h2.1, h3⟩
/-- A part of a slice. -/
theorem lst_part {w : World} {b : Option Addr} {n c : Nat} {A : List Bd} (h : Lst w (.slice b n c) A) (hn : A.length = n) {a d : Nat} (hd : a + d ≤ n) (hA : A ≠ []) : ∃ g off, b = some ⟨g, off, none⟩ ∧ ∀ c', Lst w (.slice (some ⟨g, off + a * 10, none⟩) d c') ((A.drop a).take d) := by
  rcases h with ⟨e, _⟩ | ⟨g, off, c2, e, hc⟩
  · exact absurd e hA
  · injection e with e1 e2 e3
    refine ⟨g, off, e1, fun c' => .inr ⟨g, off + a * 10, c', by rw [List.length_take, List.length_drop]; congr 1; omega, fun k x hx i hi => ?_⟩⟩
    have := hc (a + k) x (part_at hx).1 i hi
    rw [← this]
    congr 2
    omega
theorem part_lst {w : World} {b : Option Addr} {n c : Nat} {A : List Bd} (h : Lst w (.slice b n c) A) (hn : A.length = n) {a d : Nat} (hd : a + d ≤ n) (c' : Nat) : Lst w (.slice (Option.map (fun x => x.add (a * 10)) b) d c') ((A.drop a).take d) := by
  by_cases hA : A = []
  · subst hA
    have : d = 0 := by simp at hn; omega
    subst this
    exact .inl ⟨by simp, _, c', rfl⟩
  · obtain ⟨g, off, rfl, h2⟩ := lst_part h hn hd hA
    have e : (⟨g, off, none⟩ : Addr).add (a * 10) = ⟨g, off + a * 10, none⟩ := by unfold Addr.add; split <;> simp_all
    simp only [Option.map_some, e]
    exact h2 c'
theorem part_zero {w : World} {b : Option Addr} {A : List Bd} {a : Nat} (c' : Nat) : Lst w (.slice b 0 c') ((A.drop a).take 0) := .inl ⟨by simp, _, c', rfl⟩
set_option maxRecDepth 100000 in
set_option maxHeartbeats 4000000 in
theorem vpl_main (AW : VAwake) (O : VOps) (b1 : Option Addr) (c1 n1 : Nat) (p q : Int) (hp : 0 ≤ p ∧ p < 256) (hq : 0 ≤ q ∧ q < 256) (w : World) (hs : (n1 : Int) ≤ 100) (A : List Bd) (n : Nat) (hA : A.length = n) (hn : n ≤ 100) (asc : Asc A) (he : eachE A = 0) (f : Fit A) (S1 : VR w (.slice b1 n1 c1) 0 A n) (a d : Nat) (had : a + d ≤ n) (ha : Int.tmod p ((n : Int) + 1) = (a : Int)) (hd : Int.tmod q ((n : Int) - (a : Int) + 1) = (d : Int)) : Calls Try.prog 7 #[.slice b1 n1 c1, .int .u8 p, .int .u8 q] w fun e w' => e = .returned (.bool true) ∧ Kep w.heap.size w w' := by
  replace AW := Lib.hid AW
  replace S1 := Lib.hid S1
  have hn' : (n : Int) ≤ 100 := by omega
  have z1 : ((n : Int) + 1 == 0) = false := beq_eq_false_iff_ne.2 (by omega)
  have z2 : ((n : Int) - (a : Int) + 1 == 0) = false := beq_eq_false_iff_ne.2 (by omega)
  have hp0 := hp.1
  have hp1 := hp.2
  have hq0 := hq.1
  have hq1 := hq.2
  have had' : (a : Int) + (d : Int) ≤ (n : Int) := by omega
  have FN : Hid (∀ (k : Nat) (x : Bd), A[k]? = some x → ∀ (m : Int) (z : Bool), ((min (k - a) d : Nat) : Int) = m → (decide (a ≤ k) && decide (k < a + d)) = z → ∀ v w, Lst w v ((A.drop a).take d) → Calls Try.prog 14 #[v, .int .u32 x.k] w fun e w' => e = .returned (.tuple #[.int .i64 m, .bool z]) ∧ Kep w.heap.size w w') := Lib.hid (fun k x hx m z hm hz v w h => by
    have := O.find v ((A.drop a).take d) x.k w h (fun y hy => f y (List.mem_of_mem_drop (List.mem_of_mem_take hy))) (by rw [List.length_take, List.length_drop]; omega) (asc_take _ (asc_drop _ asc)) (f x (List.mem_of_getElem? hx)).1
    rw [part_less asc hx a d (by omega), part_look asc hx a d, hm, hz] at this
    exact this)
  have CP : Hid (∀ v w, Lst w v ((A.drop a).take d) → Calls Try.prog 12 #[v] w fun e w' => e = .returned (.int .i64 0) ∧ Kep w.heap.size w w') := Lib.hid (fun v w h => by
    have := O.check v ((A.drop a).take d) w h (fun y hy => f y (List.mem_of_mem_drop (List.mem_of_mem_take hy))) (by rw [List.length_take, List.length_drop]; omega)
    rw [part_check asc he a d] at this
    exact this)
  have HA := Lib.hid hA
  clear O asc he f hA
  go_enter Try.func7, Try.ntmps7
  go_wp2_with (first
    | ((with_reducible refine (AW.out _).mono ?_); rintro e w1 ⟨rfl, k1⟩; have K1 := Lib.hid k1; clear k1)
    | ((with_reducible refine (S1.out _ K1.out).mono ?_); rintro e w2 ⟨b7, c7, rfl, hc7, l7, k2⟩; have K2 := Lib.hid (K1.out.next k2); have L7 := Lib.hid l7; clear k2 l7))
  · have d0 : d = 0 := by omega
    subst d0
    have h0 := h.symm
    subst h0
    have na : n ≤ a := hc7
    rw [show ((0 : Nat) : Int) = (0 : Int) from rfl, Int.add_zero]
    have LP := Lib.hid (part_zero (w := w2) (A := A) (a := a) (b := b7) 0)
    have HD := Lib.hid had
    clear ha hd z1 z2 hp hq hp0 hp1 hq0 hq1 had had'
    go_loopw [12] (fun i wr => ∃ k : Nat, k ≤ n ∧ i = .int .i64 k ∧ Hid (Kep w2.heap.size w2 wr)) (fun i _ => n - (RowKit.intOf i).toNat)
    case atStart => exact ⟨0, Nat.zero_le _, rfl, Lib.hid (Kep.refl _ _)⟩
    case round =>
      obtain ⟨k, hk, rfl, HR⟩ := hrel
      by_cases hlt : k < n
      · have hx : A[k]? = some (A[k]'(by rw [HA.out]; exact hlt)) := List.getElem?_eq_getElem _
        generalize A[k]'(by rw [HA.out]; exact hlt) = x at hx
        obtain ⟨g1, off1, hb1, hc1⟩ := Lst.at_ (L7.out.kep HR.out) hx
        subst hb1
        have x0 : wr.cell? ⟨g1, off1 + k * 10, none⟩ = some (.int .u32 x.k) := hc1 0 (by omega)
        have CF := Lib.hid (fun m z hm hz => FN.out k x hx m z hm hz _ wr (LP.out.kep HR.out))
        have i0 : (0 : Int) ≤ (k : Int) := Int.natCast_nonneg _
        have i1 : (k : Int) < (n : Int) := by omega
        clear hc1 hx
        rcases Nat.lt_or_ge k a with q1 | q1
        · have g1 : (k : Int) < (a : Int) := by omega
          have C := Lib.hid (CF.out 0 false (by rw [show min (k - a) 0 = 0 by omega]; rfl) (by rw [decide_eq_false (by omega)]; rfl))
          obtain ⟨t, ht⟩ : ∃ t : Int, t = (k : Int) - (a : Int) := ⟨_, rfl⟩
          have r1 := ht.symm
          have t1 : t ≤ 0 := by omega
          have t0 : -1000 ≤ t := by have := HD.out; omega
          have hmx : max t 0 = 0 := by omega
          have hmn : min (0 : Int) (0 : Int) = 0 := by omega
          have d1 : decide (a ≤ k) = false := decide_eq_false (by omega)
          have d2 : decide ((a : Int) ≤ (k : Int)) = false := decide_eq_false (by omega)
          clear ht
          go_wp2_with ((with_reducible refine (C.out).mono ?_); rintro e w5 ⟨rfl, k5⟩; have K5 := Lib.hid (HR.out.next k5); clear k5)
          go_roundw
          case rel => exact ⟨k + 1, by omega, by go_num, K5⟩
          case measure => simp [RowKit.intOf]; omega
        · exact absurd q1 (by omega)
      · go_wp2_with ((with_reducible refine (CP.out _ _ (LP.out.kep HR.out)).mono ?_); rintro e w5 ⟨rfl, k5⟩; have K5 := Lib.hid (HR.out.next k5); clear k5)
        go_ret
        exact ⟨rfl, K2.out.next K5.out⟩
  · obtain ⟨bp, hbp⟩ : ∃ bp, bp = Option.map (fun x : Addr => x.add (a * 10)) b7 := ⟨_, rfl⟩
    have lp := part_lst L7.out HA.out had (c7 - a)
    rw [← hbp] at lp ⊢
    clear hbp
    have LP := Lib.hid (lp)
    have HD := Lib.hid had
    clear ha hd z1 z2 hp hq hp0 hp1 hq0 hq1 had had'
    go_loopw [12] (fun i wr => ∃ k : Nat, k ≤ n ∧ i = .int .i64 k ∧ Hid (Kep w2.heap.size w2 wr)) (fun i _ => n - (RowKit.intOf i).toNat)
    case atStart => exact ⟨0, Nat.zero_le _, rfl, Lib.hid (Kep.refl _ _)⟩
    case round =>
      obtain ⟨k, hk, rfl, HR⟩ := hrel
      by_cases hlt : k < n
      · have hx : A[k]? = some (A[k]'(by rw [HA.out]; exact hlt)) := List.getElem?_eq_getElem _
        generalize A[k]'(by rw [HA.out]; exact hlt) = x at hx
        obtain ⟨g1, off1, hb1, hc1⟩ := Lst.at_ (L7.out.kep HR.out) hx
        subst hb1
        have x0 : wr.cell? ⟨g1, off1 + k * 10, none⟩ = some (.int .u32 x.k) := hc1 0 (by omega)
        have CF := Lib.hid (fun m z hm hz => FN.out k x hx m z hm hz _ wr (LP.out.kep HR.out))
        have i0 : (0 : Int) ≤ (k : Int) := Int.natCast_nonneg _
        have i1 : (k : Int) < (n : Int) := by omega
        clear hc1 hx
        rcases Nat.lt_or_ge k a with q1 | q1
        · have g1 : (k : Int) < (a : Int) := by omega
          have C := Lib.hid (CF.out 0 false (by rw [show min (k - a) d = 0 by omega]; rfl) (by rw [decide_eq_false (by omega)]; rfl))
          obtain ⟨t, ht⟩ : ∃ t : Int, t = (k : Int) - (a : Int) := ⟨_, rfl⟩
          have r1 := ht.symm
          have t1 : t ≤ 0 := by omega
          have t0 : -1000 ≤ t := by have := HD.out; omega
          have hmx : max t 0 = 0 := by omega
          have hmn : min (0 : Int) (d : Int) = 0 := by omega
          have d1 : decide (a ≤ k) = false := decide_eq_false (by omega)
          have d2 : decide ((a : Int) ≤ (k : Int)) = false := decide_eq_false (by omega)
          clear ht
          go_wp2_with ((with_reducible refine (C.out).mono ?_); rintro e w5 ⟨rfl, k5⟩; have K5 := Lib.hid (HR.out.next k5); clear k5)
          go_roundw
          case rel => exact ⟨k + 1, by omega, by go_num, K5⟩
          case measure => simp [RowKit.intOf]; omega
        · have g1 : (a : Int) ≤ (k : Int) := by omega
          obtain ⟨t, ht⟩ : ∃ t : Int, t = (k : Int) - (a : Int) := ⟨_, rfl⟩
          have r1 := ht.symm
          have t1 : 0 ≤ t := by omega
          have t0 : t ≤ 1000 := by omega
          have hmx : max t 0 = t := by omega
          have d1 : decide (a ≤ k) = true := decide_eq_true q1
          have d2 : decide ((a : Int) ≤ (k : Int)) = true := decide_eq_true g1
          have e0 : (t != t) = false := by simp
          have e1 : ((d : Int) != (d : Int)) = false := by simp
          by_cases q2 : k < a + d
          · have C := Lib.hid (CF.out t true (by omega) (by rw [decide_eq_true q1, decide_eq_true q2]; rfl))
            have hmn : min t (d : Int) = t := by omega
            have d3 : decide ((k : Int) < (a : Int) + (d : Int)) = true := decide_eq_true (by omega)
            have d4 : decide (k < a + d) = true := decide_eq_true (by omega)
            clear ht
            go_wp2_with ((with_reducible refine (C.out).mono ?_); rintro e w5 ⟨rfl, k5⟩; have K5 := Lib.hid (HR.out.next k5); clear k5)
            go_roundw
            case rel => exact ⟨k + 1, by omega, by go_num, K5⟩
            case measure => simp [RowKit.intOf]; omega
          · have C := Lib.hid (CF.out (d : Int) false (by omega) (by rw [decide_eq_false q2, Bool.and_false]))
            have hmn : min t (d : Int) = (d : Int) := by omega
            have d3 : decide ((k : Int) < (a : Int) + (d : Int)) = false := decide_eq_false (by omega)
            have d4 : decide (k < a + d) = false := decide_eq_false (by omega)
            clear ht
            go_wp2_with ((with_reducible refine (C.out).mono ?_); rintro e w5 ⟨rfl, k5⟩; have K5 := Lib.hid (HR.out.next k5); clear k5)
            go_roundw
            case rel => exact ⟨k + 1, by omega, by go_num, K5⟩
            case measure => simp [RowKit.intOf]; omega
      · go_wp2_with ((with_reducible refine (CP.out _ _ (LP.out.kep HR.out)).mono ?_); rintro e w5 ⟨rfl, k5⟩; have K5 := Lib.hid (HR.out.next k5); clear k5)
        go_ret
        exact ⟨rfl, K2.out.next K5.out⟩
/-- The law ViewParts. -/
theorem vpl_all (AW : VAwake) (O : VOps) (v1 : Value) (L : List Bd) (p q : Int) (w : World) (h1 : Lst w v1 L) (f1 : Fit L) (hp : 0 ≤ p ∧ p < 256) (hq : 0 ≤ q ∧ q < 256) : Calls Try.prog 7 #[v1, .int .u8 p, .int .u8 q] w fun e w' => e = .returned (.bool true) ∧ Kep w.heap.size w w' := by
  obtain ⟨b1, c1, rfl⟩ := h1.shape
  by_cases l1 : 100 < L.length
  · exact vpl_long AW b1 c1 _ p q w (by omega)
  by_cases e1 : sortE L = 0
  rotate_left
  · exact vpl_bad AW b1 c1 _ p q w (by omega) _ (bne_iff_ne.2 e1) _ (vs_of h1 (by omega))
  have S1 := vr_of h1 (by omega)
  rw [e1] at S1
  have a1 := sortL_asc L
  obtain ⟨n, hn⟩ : ∃ n, (sortL L).length = n := ⟨_, rfl⟩
  rw [hn] at S1
  have p1 : (0 : Int) < (n : Int) + 1 := by omega
  obtain ⟨a, ha⟩ : ∃ a : Nat, Int.tmod p ((n : Int) + 1) = (a : Int) := ⟨(Int.tmod p ((n : Int) + 1)).toNat, (Int.toNat_of_nonneg (Int.tmod_nonneg _ hp.1)).symm⟩
  have a2 := Int.tmod_lt_of_pos p p1
  rw [ha] at a2
  have p2 : (0 : Int) < (n : Int) - (a : Int) + 1 := by omega
  obtain ⟨d, hd⟩ : ∃ d : Nat, Int.tmod q ((n : Int) - (a : Int) + 1) = (d : Int) := ⟨(Int.tmod q ((n : Int) - (a : Int) + 1)).toNat, (Int.toNat_of_nonneg (Int.tmod_nonneg _ hq.1)).symm⟩
  have d2 := Int.tmod_lt_of_pos q p2
  rw [hd] at d2
  exact vpl_main AW O b1 c1 _ p q hp hq w (by omega) (sortL L) n hn (by omega) a1.1 (sorted_each e1) (sortL_fits f1) S1 a d (by omega) ha hd
end Go.Proofs.Ytlfbiijillpnnaa
