/-
  Package codec: the law CodecApart.
-/
import Derived.Test.YtllkokfaodpfiaaCdcLawN
import Derived.Test.YtllkokfaodpfiaaViewSame
import Derived.Deep.DeepCutAuto
import Derived.Deep.QuietTactic
import Derived.BigQuiet
namespace Go.Proofs.Ytllkokfaodpfiaa
open Go.RowKit Go.Lib

set_option maxRecDepth 100000 in
set_option maxHeartbeats 1000000 in
theorem eal_l (AW : Hid EAwake) (L : List Bd) (v0 : Value) (w : World) (h0 : Lst w v0 L) (M : List Bd) (v1 : Value) (h1 : Lst w v1 M) (hl : 100 < L.length) : Calls Try.prog 7 #[v0, v1] w fun e w' => e = .returned (.bool true) ∧ Kep w.heap.size w w' := by
  obtain ⟨b0, c0, rfl⟩ := h0.shape
  obtain ⟨b1, c1, rfl⟩ := h1.shape
  have i0 : (100 : Int) < (L.length : Int) := by omega
  clear h0 h1
  generalize L.length = n at *
  generalize M.length = m at *
  go_enter Try.func7, Try.ntmps7
  go_wp2_with (first
    | ((with_reducible refine (AW.out _).mono ?_); rintro e w1 ⟨rfl, g1⟩; first | replace gg := kep_next gg g1 | have gg := g1))
  go_ret
  exact ⟨rfl, gg⟩
set_option maxRecDepth 100000 in
set_option maxHeartbeats 1000000 in
theorem eal_m (AW : Hid EAwake) (L : List Bd) (v0 : Value) (w : World) (h0 : Lst w v0 L) (M : List Bd) (v1 : Value) (h1 : Lst w v1 M) (hl : L.length ≤ 100) (hm : 100 < M.length) : Calls Try.prog 7 #[v0, v1] w fun e w' => e = .returned (.bool true) ∧ Kep w.heap.size w w' := by
  obtain ⟨b0, c0, rfl⟩ := h0.shape
  obtain ⟨b1, c1, rfl⟩ := h1.shape
  have i0 : ¬ (100 : Int) < (L.length : Int) := by omega
  have i1 : (100 : Int) < (M.length : Int) := by omega
  clear h0 h1
  generalize L.length = n at *
  generalize M.length = m at *
  go_enter Try.func7, Try.ntmps7
  go_wp2_with (first
    | ((with_reducible refine (AW.out _).mono ?_); rintro e w1 ⟨rfl, g1⟩; first | replace gg := kep_next gg g1 | have gg := g1))
  go_ret
  exact ⟨rfl, gg⟩
set_option maxRecDepth 100000 in
set_option maxHeartbeats 2000000 in
theorem eal_cl (AW : Hid EAwake) (L : List Bd) (v0 : Value) (w : World) (h0 : Lst w v0 L) (M : List Bd) (v1 : Value) (h1 : Lst w v1 M) (hl : L.length ≤ 100) (hm : M.length ≤ 100) (cL : vchkE L ≠ 0) : Calls Try.prog 7 #[v0, v1] w fun e w' => e = .returned (.bool true) ∧ Kep w.heap.size w w' := by
  have C0 : Hid (∀ w', Kep w.heap.size w w' → Calls Try.prog 17 #[v0] w' fun e w2 => (e = .returned (.int .i64 (vchkE L))) ∧ Kep w'.heap.size w' w2) := Lib.hid fun w' k => by
    have := vcheck_any v0 L w' (h0.kep k) (by omega)
    exact this
  have d0 : (vchkE L != 0) = true := by simp [cL]
  obtain ⟨b0, c0, rfl⟩ := h0.shape
  obtain ⟨b1, c1, rfl⟩ := h1.shape
  have i0 : ¬ (100 : Int) < (L.length : Int) := by omega
  have i1 : ¬ (100 : Int) < (M.length : Int) := by omega
  clear h0 h1 hl hm cL
  generalize vchkE L = c at *
  generalize L.length = n at *
  generalize M.length = m at *
  go_enter Try.func7, Try.ntmps7
  go_wp2_with (first
    | ((with_reducible refine (AW.out _).mono ?_); rintro e w9 ⟨rfl, g⟩; first | replace gg := kep_next gg g | have gg := g)
    | ((with_reducible refine (C0.out _ gg).mono ?_); rintro e w2 ⟨rfl, g⟩; replace gg := kep_next gg g; clear g))
  go_ret
  exact ⟨rfl, gg⟩
set_option maxRecDepth 100000 in
set_option maxHeartbeats 2000000 in
theorem eal_cm (AW : Hid EAwake) (L : List Bd) (v0 : Value) (w : World) (h0 : Lst w v0 L) (M : List Bd) (v1 : Value) (h1 : Lst w v1 M) (hl : L.length ≤ 100) (hm : M.length ≤ 100) (cL : vchkE L = 0) (cM : vchkE M ≠ 0) : Calls Try.prog 7 #[v0, v1] w fun e w' => e = .returned (.bool true) ∧ Kep w.heap.size w w' := by
  have C0 : Hid (∀ w', Kep w.heap.size w w' → Calls Try.prog 17 #[v0] w' fun e w2 => (e = .returned (.int .i64 0)) ∧ Kep w'.heap.size w' w2) := Lib.hid fun w' k => by
    have := vcheck_any v0 L w' (h0.kep k) (by omega)
    rw [cL] at this
    exact this
  have C1 : Hid (∀ w', Kep w.heap.size w w' → Calls Try.prog 17 #[v1] w' fun e w2 => (e = .returned (.int .i64 (vchkE M))) ∧ Kep w'.heap.size w' w2) := Lib.hid fun w' k => by
    have := vcheck_any v1 M w' (h1.kep k) (by omega)
    exact this
  have d0 : (vchkE M != 0) = true := by simp [cM]
  obtain ⟨b0, c0, rfl⟩ := h0.shape
  obtain ⟨b1, c1, rfl⟩ := h1.shape
  have i0 : ¬ (100 : Int) < (L.length : Int) := by omega
  have i1 : ¬ (100 : Int) < (M.length : Int) := by omega
  clear h0 h1 hl hm cL cM
  generalize vchkE M = c at *
  generalize L.length = n at *
  generalize M.length = m at *
  go_enter Try.func7, Try.ntmps7
  go_wp2_with (first
    | ((with_reducible refine (AW.out _).mono ?_); rintro e w9 ⟨rfl, g⟩; first | replace gg := kep_next gg g | have gg := g)
    | ((with_reducible refine (C0.out _ gg).mono ?_); rintro e w2 ⟨rfl, g⟩; replace gg := kep_next gg g; clear g)
    | ((with_reducible refine (C1.out _ gg).mono ?_); rintro e w3 ⟨rfl, g⟩; replace gg := kep_next gg g; clear g))
  go_ret
  exact ⟨rfl, gg⟩
set_option maxRecDepth 100000 in
set_option maxHeartbeats 4000000 in
theorem eal_ok (O : EOps) (AW : Hid EAwake) (L : List Bd) (v0 : Value) (w : World) (h0 : Lst w v0 L) (M : List Bd) (v1 : Value) (h1 : Lst w v1 M) (HL : ∀ x ∈ L, Fits x) (HM : ∀ x ∈ M, Fits x) (hl : L.length ≤ 100) (hm : M.length ≤ 100) (cL : vchkE L = 0) (cM : vchkE M = 0) (z : Bool) (hz : z = true ↔ L = M) : Calls Try.prog 7 #[v0, v1] w fun e w' => e = .returned (.bool true) ∧ Kep w.heap.size w w' := by
  have C0 : Hid (∀ w', Kep w.heap.size w w' → Calls Try.prog 17 #[v0] w' fun e w2 => (e = .returned (.int .i64 0)) ∧ Kep w'.heap.size w' w2) := Lib.hid fun w' k => by
    have := vcheck_any v0 L w' (h0.kep k) (by omega)
    rw [cL] at this
    exact this
  have C1 : Hid (∀ w', Kep w.heap.size w w' → Calls Try.prog 17 #[v1] w' fun e w2 => (e = .returned (.int .i64 0)) ∧ Kep w'.heap.size w' w2) := Lib.hid fun w' k => by
    have := vcheck_any v1 M w' (h1.kep k) (by omega)
    rw [cM] at this
    exact this
  have E0 : Hid (∀ w', Kep w.heap.size w w' → Calls Try.prog 9 #[v0] w' fun e w2 => (∃ b c, e = .returned (.tuple #[.slice b (8 + L.length * 40) c, .int .i64 0]) ∧ Sq bv 1 w2 (.slice b (8 + L.length * 40) c) (encL L)) ∧ Kep w'.heap.size w' w2) := Lib.hid fun w' k => (O.enc v0 L w' (h0.kep k) HL (by omega)).mono fun e w2 ⟨v', e1, h2, h3⟩ => by
    have q := (h2.out.1 cL).sq
    obtain ⟨b, c, e2⟩ := q.shape
    rw [encL_len] at e2
    exact ⟨⟨b, c, by rw [e1, cL, e2], by rw [← e2]; exact q⟩, h3⟩
  have E1 : Hid (∀ w', Kep w.heap.size w w' → Calls Try.prog 9 #[v1] w' fun e w2 => (∃ b c, e = .returned (.tuple #[.slice b (8 + M.length * 40) c, .int .i64 0]) ∧ Sq bv 1 w2 (.slice b (8 + M.length * 40) c) (encL M)) ∧ Kep w'.heap.size w' w2) := Lib.hid fun w' k => (O.enc v1 M w' (h1.kep k) HM (by omega)).mono fun e w2 ⟨v', e1, h2, h3⟩ => by
    have q := (h2.out.1 cM).sq
    obtain ⟨b, c, e2⟩ := q.shape
    rw [encL_len] at e2
    exact ⟨⟨b, c, by rw [e1, cM, e2], by rw [← e2]; exact q⟩, h3⟩
  have S1 : Hid (∀ va vb w', Sq bv 1 w' va (encL L) → Sq bv 1 w' vb (encL M) → Calls Try.prog 13 #[va, vb] w' fun e w2 => (e = .returned (.bool z)) ∧ Kep w'.heap.size w' w2) := Lib.hid fun va vb w' p q => by
    have := rsm (show (encL L).length ≤ 1000000 by rw [encL_len]; omega) (show (encL M).length ≤ 1000000 by rw [encL_len]; omega) va vb w' p q
    have e : decide (encL L = encL M) = z := by
      cases z
      · exact decide_eq_false (fun q => by have := hz.2 (enc_inj HL HM q); cases this)
      · exact decide_eq_true (by rw [hz.1 rfl])
    rw [e] at this
    exact this
  have S6 : Hid (∀ w', Kep w.heap.size w w' → Calls Try.prog 14 #[v0, v1] w' fun e w2 => (e = .returned (.bool z)) ∧ Kep w'.heap.size w' w2) := Lib.hid fun w' k => by
    cases z
    · exact same_ne v0 v1 L M w' (h0.kep k) (h1.kep k) (by omega) (fun e => by have := hz.2 e; cases this)
    · have q := h1.kep k
      rw [← hz.1 rfl] at q
      exact same_any v0 v1 L w' (h0.kep k) q (by omega)
  have SZ := Lib.hid (fun w' => O.siz L.length w' (by omega))
  have d0 : (8 + (L.length : Int) * 40 == 8 + 40 * (L.length : Int)) = true := by rw [beq_iff_eq]; omega
  have d1 : (8 + (M.length : Int) * 40 == 8 + 40 * (M.length : Int)) = true := by rw [beq_iff_eq]; omega
  have ez : (z == z) = true := by simp
  obtain ⟨b0, c0, rfl⟩ := h0.shape
  obtain ⟨b1, c1, rfl⟩ := h1.shape
  have i0 : ¬ (100 : Int) < (L.length : Int) := by omega
  have i1 : ¬ (100 : Int) < (M.length : Int) := by omega
  have hn : L.length ≤ 100 := hl
  have hm2 : M.length ≤ 100 := hm
  clear h0 h1 hl hm cL cM HL HM hz
  generalize encL L = EL at *
  generalize encL M = EM at *
  generalize L.length = n at *
  generalize M.length = m at *
  go_enter Try.func7, Try.ntmps7
  go_wp2_with (first
    | ((with_reducible refine (AW.out _).mono ?_); rintro e w9 ⟨rfl, g⟩; first | replace gg := kep_next gg g | have gg := g)
    | ((with_reducible refine (C0.out _ gg).mono ?_); rintro e w2 ⟨rfl, g⟩; replace gg := kep_next gg g; clear g)
    | ((with_reducible refine (C1.out _ gg).mono ?_); rintro e w3 ⟨rfl, g⟩; replace gg := kep_next gg g; clear g)
    | ((with_reducible refine (E0.out _ gg).mono ?_); rintro e w4 ⟨⟨x1, k1, rfl, q1⟩, g⟩; replace gg := kep_next gg g; have Q1 := Lib.hid q1; clear g q1)
    | ((with_reducible refine (E1.out _ gg).mono ?_); rintro e w5 ⟨⟨x2, k2, rfl, q2⟩, g⟩; replace gg := kep_next gg g; have Q2 := Lib.hid q2; replace Q1 := Lib.hid (Q1.out.kep g); clear g q2)
    | ((with_reducible refine (S1.out _ _ _ Q1.out Q2.out).mono ?_); rintro e w6 ⟨rfl, g⟩; replace gg := kep_next gg g; clear g)
    | ((with_reducible refine (S6.out _ gg).mono ?_); rintro e w7 ⟨rfl, g⟩; replace gg := kep_next gg g; clear g)
    | ((with_reducible refine (SZ.out _).mono ?_); rintro e w8 ⟨rfl, g⟩; replace gg := kep_next gg g; clear g))
  go_ret
  exact ⟨rfl, gg⟩
/-- The law CodecApart. -/
theorem eal_law (O : EOps) (AW : EAwake) (L : List Bd) (v0 : Value) (w : World) (h0 : Lst w v0 L) (M : List Bd) (v1 : Value) (h1 : Lst w v1 M) (HL : ∀ x ∈ L, Fits x) (HM : ∀ x ∈ M, Fits x) : Calls Try.prog 7 #[v0, v1] w fun e w' => e = .returned (.bool true) ∧ Kep w.heap.size w w' := by
  by_cases c0 : 100 < L.length
  · exact eal_l (Lib.hid AW) L v0 w h0 M v1 h1 c0
  · by_cases c1 : 100 < M.length
    · exact eal_m (Lib.hid AW) L v0 w h0 M v1 h1 (by omega) c1
    · by_cases ca : vchkE L = 0
      · by_cases cb : vchkE M = 0
        · by_cases e : L = M
          · exact eal_ok O (Lib.hid AW) L v0 w h0 M v1 h1 HL HM (by omega) (by omega) ca cb true ⟨fun _ => e, fun _ => rfl⟩
          · exact eal_ok O (Lib.hid AW) L v0 w h0 M v1 h1 HL HM (by omega) (by omega) ca cb false ⟨fun h => (by cases h), fun h => absurd h e⟩
        · exact eal_cm (Lib.hid AW) L v0 w h0 M v1 h1 (by omega) (by omega) ca cb
      · exact eal_cl (Lib.hid AW) L v0 w h0 M v1 h1 (by omega) (by omega) ca
end Go.Proofs.Ytllkokfaodpfiaa
