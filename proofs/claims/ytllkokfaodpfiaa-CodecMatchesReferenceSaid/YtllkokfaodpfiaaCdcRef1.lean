/-
  Package codec: the reference's numbers: word, number, signed.
-/
import Derived.Test.YtllkokfaodpfiaaCdcCon
namespace Go.Proofs.Ytllkokfaodpfiaa
open Go.RowKit Go.Lib

theorem tdiv_pos {m d : Int} (h : 0 ≤ m) : m.tdiv d = m / d := Int.tdiv_eq_ediv_of_nonneg h
theorem buf_new4 (w : World) (a b c d : Int) (t : TypeId) : BufB (w.alloc (.cells #[.int .u8 a, .int .u8 b, .int .u8 c, .int .u8 d] t)) w.heap.size (.slice (some ⟨w.heap.size, 0, none⟩) 4 4) [a, b, c, d] := by
  have hc : ∀ j, (w.alloc (.cells #[.int .u8 a, .int .u8 b, .int .u8 c, .int .u8 d] t)).cell? ⟨w.heap.size, j, none⟩ = (#[Value.int .u8 a, .int .u8 b, .int .u8 c, .int .u8 d] : Array Value)[j]? := fun j => World.cell?_alloc_at _ _ _ _ rfl
  refine ⟨w.heap.size, 4, rfl, Nat.le_refl _, Nat.le_refl _, by unfold maxLen; omega, fun i n hi => ?_, fun i hi => ⟨?_, World.frozen?_alloc_at _ _ _ _ rfl⟩, by simp⟩
  · rw [hc]
    match i, hi with
    | 0, hi => simp at hi; subst hi; rfl
    | 1, hi => simp at hi; subst hi; rfl
    | 2, hi => simp at hi; subst hi; rfl
    | 3, hi => simp at hi; subst hi; rfl
    | i + 4, hi => simp at hi
  · rw [hc, Array.getElem?_eq_getElem (by simpa using hi)]
    rfl
theorem w4_eq {n a b c d : Int} (h0 : a = n / 16777216 % 256) (h1 : b = n / 65536 % 256) (h2 : c = n / 256 % 256) (h3 : d = n % 256) : w4 n = [a, b, c, d] := by rw [h0, h1, h2, h3]; rfl
set_option maxRecDepth 100000 in
set_option maxHeartbeats 2000000 in
theorem rwo {n : Int} (h : -2147483648 ≤ n ∧ n < 4294967296) : RWo n := fun w => by
  by_cases hn : n < 0
  · have d0 : decide (n < 0) = true := decide_eq_true hn
    have e := w4_eq (n := n) (a := (n + 4294967296) / 16777216) (b := (n + 4294967296) / 65536 % 256) (c := (n + 4294967296) / 256 % 256) (d := (n + 4294967296) % 256) (by omega) (by omega) (by omega) (by omega)
    rw [e]
    clear e
    go_enter Try.func26, Try.ntmps26
    go_wp2_with fail
    go_ret
    exact ⟨_, rfl, buf_new4 _ _ _ _ _ _, kep_more (Kep.refl _ _) _⟩
  · have d0 : decide (n < 0) = false := decide_eq_false hn
    have e := w4_eq (n := n) (a := n / 16777216) (b := n / 65536 % 256) (c := n / 256 % 256) (d := n % 256) (by omega) rfl rfl rfl
    rw [e]
    clear e
    go_enter Try.func26, Try.ntmps26
    go_wp2_with fail
    go_ret
    exact ⟨_, rfl, buf_new4 _ _ _ _ _ _, kep_more (Kep.refl _ _) _⟩
/-- The cells of a slice of bytes, read by their numbers. -/
theorem byt_at {w : World} {base : Option Addr} {cap : Nat} {b : List Int} (h : Sq bv 1 w (.slice base b.length cap) b) {i : Nat} (hi : i < b.length) : ∃ g off, base = some ⟨g, off, none⟩ ∧ w.cell? ⟨g, off + i, none⟩ = some (.int .u8 (gb b i)) := by
  obtain ⟨_, _, e, hq⟩ := h
  injection e with e1
  subst e1
  obtain ⟨g, off, e2, hc⟩ := hq i _ (List.getElem?_eq_getElem hi)
  have := hc 0 _ rfl
  rw [Nat.mul_one, Nat.add_zero] at this
  refine ⟨g, off, e2, ?_⟩
  rw [this]
  unfold gb
  rw [List.getD_eq_getElem?_getD, List.getElem?_eq_getElem hi]
  rfl
set_option maxRecDepth 100000 in
set_option maxHeartbeats 2000000 in
theorem rnu {b : List Int} (hb : Byt b) (hl : 4 ≤ b.length) : RNu b := fun v w h => by
  obtain ⟨base, cap, rfl⟩ := h.shape
  obtain ⟨g, off, rfl, c0⟩ := byt_at h (i := 0) (by omega)
  obtain ⟨_, _, e, c1⟩ := byt_at h (i := 1) (by omega)
  injection e with e
  injection e with e1 e2
  subst e1 e2
  obtain ⟨_, _, e, c2⟩ := byt_at h (i := 2) (by omega)
  injection e with e
  injection e with e1 e2
  subst e1 e2
  obtain ⟨_, _, e, c3⟩ := byt_at h (i := 3) (by omega)
  injection e with e
  injection e with e1 e2
  subst e1 e2
  have b0 := gb_byt hb 0
  have b1 := gb_byt hb 1
  have b2 := gb_byt hb 2
  have b3 := gb_byt hb 3
  have E : numA b 0 = ((gb b 0 * 256 + gb b 1) * 256 + gb b 2) * 256 + gb b 3 := rfl
  rw [E, Nat.add_zero] at *
  have hl1 : (1 : Int) < (b.length : Int) := by omega
  have hl2 : (2 : Int) < (b.length : Int) := by omega
  have hl3 : (3 : Int) < (b.length : Int) := by omega
  have hl0 : (0 : Int) < (b.length : Int) := by omega
  generalize gb b 0 = x0 at *
  generalize gb b 1 = x1 at *
  generalize gb b 2 = x2 at *
  generalize gb b 3 = x3 at *
  generalize b.length = n at *
  clear h hb E
  go_enter Try.func24, Try.ntmps24
  go_upto_region 1 with fail
  go_quiet (fail)
  go_wp2_with fail
  go_ret
  exact ⟨rfl, kep_drewN (Kep.refl _ _) _⟩
set_option maxRecDepth 100000 in
set_option maxHeartbeats 2000000 in
theorem rsg {b : List Int} (hb : Byt b) (hl : 4 ≤ b.length) : RSg b := fun v w h => by
  have C1 := Lib.hid (rnu hb hl v w h)
  obtain ⟨base, cap, rfl⟩ := h.shape
  have hn := numA_byt hb 0
  by_cases c : 2147483648 ≤ numA b 0
  · have d0 : decide (2147483648 ≤ numA b 0) = true := decide_eq_true c
    have e : sgn (numA b 0) = numA b 0 - 4294967296 := if_pos c
    have W := Lib.hid (show wrap32 (numA b 0 - 4294967296) = numA b 0 - 4294967296 by unfold wrap32; omega)
    rw [e]
    clear e c h
    generalize numA b 0 = n at *
    go_enter Try.func25, Try.ntmps25
    go_wp2_with ((with_reducible refine (C1.out).mono ?_); rintro e w1 ⟨rfl, g1⟩; have gg := g1)
    go_ret
    refine ⟨?_, gg⟩
    show Ending.returned (.int .i32 (wrap32 (n - 4294967296))) = _
    rw [W.out]
  · have d0 : decide (2147483648 ≤ numA b 0) = false := decide_eq_false c
    have e : sgn (numA b 0) = numA b 0 := if_neg c
    have w32 : IntKind.i32.wrap (numA b 0) = numA b 0 := by rw [IntKind.wrap_i32]; omega
    rw [e]
    clear e h
    generalize numA b 0 = n at *
    go_enter Try.func25, Try.ntmps25
    go_wp2_with ((with_reducible refine (C1.out).mono ?_); rintro e w1 ⟨rfl, g1⟩; have gg := g1)
    go_ret
    exact ⟨rfl, gg⟩
theorem gb_get {b : List Int} {i : Nat} (h : i < b.length) : b[i]? = some (gb b i) := by
  unfold gb
  rw [List.getD_eq_getElem?_getD, List.getElem?_eq_getElem h]
  rfl
theorem take_same {a b : List Int} {k : Nat} {x y : Int} (ha : a[k]? = some x) (hb : b[k]? = some y) : a.take (k + 1) = b.take (k + 1) ↔ a.take k = b.take k ∧ x = y := by
  rw [List.take_add_one, List.take_add_one, ha, hb]
  have l : (a.take k).length = (b.take k).length := by
    rw [List.length_take, List.length_take]
    have := (List.getElem?_eq_some_iff.1 ha).1
    have := (List.getElem?_eq_some_iff.1 hb).1
    omega
  constructor
  · intro h
    have := List.append_inj h l
    simpa using this
  · rintro ⟨h1, rfl⟩
    rw [h1]
set_option maxRecDepth 100000 in
set_option maxHeartbeats 4000000 in
theorem rsm {a b : List Int} (ha : a.length ≤ 1000000) (hb : b.length ≤ 1000000) : RSm a b := fun va vb w h1 h2 => by
  obtain ⟨b1, k1, rfl⟩ := h1.shape
  obtain ⟨b2, k2, rfl⟩ := h2.shape
  by_cases hl : a.length = b.length
  · have HA := Lib.hid h1
    have HB := Lib.hid h2
    rw [hl] at HA ⊢
    rw [hl] at ha
    clear h1 h2
    generalize hn : b.length = n at *
    have HN := Lib.hid hn
    have HL := Lib.hid hl
    clear hn hl
    go_enter Try.func13, Try.ntmps13
    go_wp2_with fail
    go_loopw [5] (fun i wr => ∃ k : Nat, k ≤ n ∧ i = .int .i64 k ∧ Hid (a.take k = b.take k ∧ Kep w.heap.size w wr)) (fun i _ => n - (RowKit.intOf i).toNat)
    case atStart => exact ⟨0, by omega, rfl, Lib.hid ⟨rfl, Kep.refl _ _⟩⟩
    case round =>
      obtain ⟨k, hk, rfl, HP⟩ := hrel
      by_cases hlt : k < n
      · have ha2 : k < a.length := by have := HL.out; omega
        have hb2 : k < b.length := by have := HN.out; omega
        have h1 := HA.out.kep HP.out.2
        have h2 := HB.out.kep HP.out.2
        rw [← HL.out] at h1
        rw [← HN.out] at h2
        obtain ⟨g1, o1, rfl, c1⟩ := byt_at h1 ha2
        obtain ⟨g2, o2, rfl, c2⟩ := byt_at h2 hb2
        have T := Lib.hid (take_same (gb_get ha2) (gb_get hb2))
        have i1 : (k : Int) < (n : Int) := by omega
        have i0 : (0 : Int) ≤ (k : Int) := Int.natCast_nonneg _
        by_cases hxy : gb a k = gb b k
        · have HR := Lib.hid (show a.take (k + 1) = b.take (k + 1) ∧ Kep w.heap.size w wr from ⟨T.out.2 ⟨HP.out.1, hxy⟩, HP.out.2⟩)
          rw [hxy] at c1
          clear h1 h2 T HP hxy
          generalize gb b k = x at *
          go_upto_region 6 with fail
          go_quiet (fail)
          go_wp2_with fail
          go_roundw
          case rel => exact ⟨k + 1, by omega, by go_num, Lib.hid ⟨HR.out.1, kep_drewN HR.out.2 _⟩⟩
          case measure => simp [RowKit.intOf]; omega
        · have e : decide (a = b) = false := decide_eq_false (fun q => hxy (T.out.1 (by rw [q])).2)
          have HK := Lib.hid HP.out.2
          have e1 : (gb a k != gb b k) = true := by simp [hxy]
          have HE := Lib.hid e
          clear h1 h2 T HP e
          generalize gb a k = x at *
          generalize gb b k = y at *
          go_upto_region 6 with fail
          go_quiet (fail)
          go_wp2_with fail
          go_ret
          refine ⟨?_, kep_drewN HK.out _⟩
          show Ending.returned (.bool false) = _
          rw [HE.out]
      · obtain rfl : k = n := by omega
        have e : decide (a = b) = true := decide_eq_true (by
          have := HP.out.1
          rw [List.take_of_length_le (by rw [HL.out]; exact Nat.le_refl _), List.take_of_length_le (by rw [HN.out]; exact Nat.le_refl _)] at this
          exact this)
        have i2 : ¬ (k : Int) < (k : Int) := by omega
        have HG := Lib.hid HP.out.2
        have HE := Lib.hid e
        clear HP e
        go_wp2_with fail
        go_ret
        refine ⟨?_, HG.out⟩
        show Ending.returned (.bool true) = _
        rw [HE.out]
  · have e : decide (a = b) = false := decide_eq_false (fun q => hl (by rw [q]))
    rw [e]
    have n1 : ¬ (a.length : Int) = (b.length : Int) := by omega
    clear h1 h2 e
    generalize a.length = n at *
    generalize b.length = m at *
    go_enter Try.func13, Try.ntmps13
    go_wp2_with fail
    go_ret
    exact ⟨rfl, Kep.refl _ _⟩
end Go.Proofs.Ytllkokfaodpfiaa
