/-
  Package codec: the law CodecMatchesReference; what the laws share.
-/
import Derived.Test.YtllkokfaodpfiaaCdcRef3
import Derived.Test.YtllkokfaodpfiaaStoreSame
import Derived.Deep.DeepCutAuto
import Derived.Deep.QuietTactic
import Derived.BigQuiet
namespace Go.Proofs.Ytllkokfaodpfiaa
open Go.RowKit Go.Lib

/-- What Encode and Decode return, as lists. -/
def encR (L : List Bd) : List Int := if vchkE L = 0 then encL L else []
def decR (b : List Int) : List Bd := if decE b = 0 then decV b else []
theorem encR_len {L : List Bd} (h : L.length ≤ 200) : (encR L).length ≤ 9000 := by
  unfold encR
  split
  · rw [encL_len]; omega
  · simp
theorem sq_enc {w : World} {B : Nat} {v : Value} {L : List Bd} (h : Hid ((vchkE L = 0 → BufB w B v (encL L)) ∧ (vchkE L ≠ 0 → v = .slice none 0 0))) : Sq bv 1 w v (encR L) ∧ Rmy v := by
  unfold encR
  split
  · rename_i c
    exact ⟨(h.out.1 c).sq, (h.out.1 c).rmy⟩
  · rename_i c
    rw [h.out.2 c]
    exact ⟨Sq.nil, fun _ _ _ e => by injection e with _ e1 e2; omega⟩
theorem decR_len {b : List Int} (h : b.length ≤ 9000) : (decR b).length ≤ 9000 := by
  unfold decR
  split
  · rw [decV_len]; omega
  · simp
set_option maxRecDepth 100000 in
set_option maxHeartbeats 1000000 in
theorem eml_l (AW : Hid EAwake) (L : List Bd) (v0 : Value) (w : World) (h0 : Lst w v0 L) (B : List Int) (v1 : Value) (h1 : Sq bv 1 w v1 B) (hl : 100 < L.length) : Calls Try.prog 3 #[v0, v1] w fun e w' => e = .returned (.bool true) ∧ Kep w.heap.size w w' := by
  obtain ⟨b0, c0, rfl⟩ := h0.shape
  obtain ⟨b1, c1, rfl⟩ := h1.shape
  have i0 : (100 : Int) < (L.length : Int) := by omega
  clear h0 h1
  generalize L.length = n at *
  generalize B.length = m at *
  go_enter Try.func3, Try.ntmps3
  go_wp2_with (first
    | ((with_reducible refine (AW.out _).mono ?_); rintro e w1 ⟨rfl, g1⟩; first | replace gg := kep_next gg g1 | have gg := g1))
  go_ret
  exact ⟨rfl, gg⟩
set_option maxRecDepth 100000 in
set_option maxHeartbeats 1000000 in
theorem eml_b (AW : Hid EAwake) (L : List Bd) (v0 : Value) (w : World) (h0 : Lst w v0 L) (B : List Int) (v1 : Value) (h1 : Sq bv 1 w v1 B) (hl : L.length ≤ 100) (hb : 5000 < B.length) : Calls Try.prog 3 #[v0, v1] w fun e w' => e = .returned (.bool true) ∧ Kep w.heap.size w w' := by
  obtain ⟨b0, c0, rfl⟩ := h0.shape
  obtain ⟨b1, c1, rfl⟩ := h1.shape
  have i1 : ¬ (100 : Int) < (L.length : Int) := by omega
  have i0 : (5000 : Int) < (B.length : Int) := by omega
  clear h0 h1
  generalize L.length = n at *
  generalize B.length = m at *
  go_enter Try.func3, Try.ntmps3
  go_wp2_with (first
    | ((with_reducible refine (AW.out _).mono ?_); rintro e w1 ⟨rfl, g1⟩; first | replace gg := kep_next gg g1 | have gg := g1))
  go_ret
  exact ⟨rfl, gg⟩
set_option maxRecDepth 100000 in
set_option maxHeartbeats 4000000 in
theorem eml_ok (O : EOps) (AW : Hid EAwake) (L : List Bd) (v0 : Value) (w : World) (h0 : Lst w v0 L) (B : List Int) (v1 : Value) (h1 : Sq bv 1 w v1 B) (HF : ∀ x ∈ L, Fits x) (hb : Byt B) (hr : Rmy v1) (hl : L.length ≤ 100) (hbl : B.length ≤ 5000) : Calls Try.prog 3 #[v0, v1] w fun e w' => e = .returned (.bool true) ∧ Kep w.heap.size w w' := by
  have CE : Hid (∀ w', Kep w.heap.size w w' → Calls Try.prog 9 #[v0] w' fun e w2 => ∃ v', e = .returned (.tuple #[v', .int .i64 (vchkE L)]) ∧ Hid (Sq bv 1 w2 v' (encR L) ∧ Rmy v') ∧ Kep w'.heap.size w' w2) := Lib.hid fun w' k => (O.enc v0 L w' (h0.kep k) HF (by omega)).mono fun e w2 ⟨v', e1, h2, h3⟩ => ⟨v', e1, Lib.hid (sq_enc h2), h3⟩
  have CR : Hid (∀ w', Kep w.heap.size w w' → Calls Try.prog 10 #[v0] w' fun e w2 => ∃ v', e = .returned (.tuple #[v', .int .i64 (vchkE L)]) ∧ Hid (Sq bv 1 w2 v' (encR L) ∧ Rmy v') ∧ Kep w'.heap.size w' w2) := Lib.hid fun w' k => (ren v0 L w' (h0.kep k) HF (by omega)).mono fun e w2 ⟨v', e1, h2, h3⟩ => ⟨v', e1, Lib.hid (sq_enc h2), h3⟩
  have CD := Lib.hid (fun w' (k : Kep w.heap.size w w') => O.dec v1 B w' (h1.kep k) hr hb (by omega))
  have CF := Lib.hid (fun w' (k : Kep w.heap.size w w') => rde v1 B w' (h1.kep k) hr hb (by omega))
  have S1 : Hid (∀ va vb w', Sq bv 1 w' va (encR L) → Sq bv 1 w' vb (encR L) → Calls Try.prog 13 #[va, vb] w' fun e w2 => e = .returned (.bool true) ∧ Kep w'.heap.size w' w2) := Lib.hid fun va vb w' p q => by
    have := rsm (Nat.le_trans (encR_len (by omega)) (by omega)) (Nat.le_trans (encR_len (by omega)) (by omega)) va vb w' p q
    rw [decide_eq_true rfl] at this
    exact this
  have S2 := Lib.hid (fun va vb w' p q => same_any va vb (decR B) w' p q (Nat.le_trans (decR_len (by omega)) (by omega)))
  have BY := Lib.hid (fun w' (k : Kep w.heap.size w w') => rby v0 L w' (h0.kep k) HF (by omega))
  have SZ := Lib.hid (fun w' => O.siz L.length w' (by omega))
  obtain ⟨b0, c0, rfl⟩ := h0.shape
  obtain ⟨b1, c1, rfl⟩ := h1.shape
  have i0 : ¬ (100 : Int) < (L.length : Int) := by omega
  have i1 : ¬ (5000 : Int) < (B.length : Int) := by omega
  have el := encL_len L
  change Hid (∀ w', Kep w.heap.size w w' → Calls Try.prog 11 #[.slice b1 B.length c1] w' fun e w2 => ∃ v', e = .returned (.tuple #[v', .int .i64 (decE B)]) ∧ Lst w2 v' (decR B) ∧ Kep w'.heap.size w' w2) at CD
  change Hid (∀ w', Kep w.heap.size w w' → Calls Try.prog 12 #[.slice b1 B.length c1] w' fun e w2 => ∃ v', e = .returned (.tuple #[v', .int .i64 (decE B)]) ∧ Lst w2 v' (decR B) ∧ Kep w'.heap.size w' w2) at CF
  have BY2 : Hid (∀ w', Kep w.heap.size w w' → Calls Try.prog 16 #[.slice b0 L.length c0] w' fun e w2 => (∃ b c, e = .returned (.slice b (8 + L.length * 40) c)) ∧ Kep w'.heap.size w' w2) := Lib.hid fun w' k => (BY.out w' k).mono fun e w2 ⟨v', e1, b2, g⟩ => by
    obtain ⟨b, c, e2⟩ := b2.sq.shape
    rw [el] at e2
    exact ⟨⟨b, c, by rw [e1, e2]⟩, g⟩
  have d1 : (8 + 40 * (L.length : Int) == 8 + (L.length : Int) * 40) = true := by
    rw [beq_iff_eq]
    omega
  clear h0 h1 HF hb hr hl hbl el BY
  generalize vchkE L = c at *
  generalize decE B = d at *
  generalize encR L = EL at *
  generalize decR B = DB at *
  generalize L.length = n at *
  generalize B.length = m at *
  go_enter Try.func3, Try.ntmps3
  go_wp2_with (first
    | ((with_reducible refine (AW.out _).mono ?_); rintro e w1 ⟨rfl, g⟩; have gg := g)
    | ((with_reducible refine (CE.out _ gg).mono ?_); rintro e w2 ⟨x1, rfl, q1, g⟩; replace gg := kep_next gg g; have Q1 := q1; clear g)
    | ((with_reducible refine (CR.out _ gg).mono ?_); rintro e w3 ⟨x2, rfl, q2, g⟩; replace gg := kep_next gg g; have Q2 := q2; replace Q1 := Lib.hid (And.intro (Q1.out.1.kep g) Q1.out.2); clear g)
    | ((with_reducible refine (CD.out _ gg).mono ?_); rintro e w4 ⟨x3, rfl, l3, g⟩; replace gg := kep_next gg g; have L3 := Lib.hid l3; replace Q1 := Lib.hid (And.intro (Q1.out.1.kep g) Q1.out.2); replace Q2 := Lib.hid (And.intro (Q2.out.1.kep g) Q2.out.2); clear g)
    | ((with_reducible refine (CF.out _ gg).mono ?_); rintro e w5 ⟨x4, rfl, l4, g⟩; replace gg := kep_next gg g; have L4 := Lib.hid l4; replace L3 := Lib.hid (L3.out.kep g); replace Q1 := Lib.hid (And.intro (Q1.out.1.kep g) Q1.out.2); replace Q2 := Lib.hid (And.intro (Q2.out.1.kep g) Q2.out.2); clear g)
    | ((with_reducible refine (S1.out _ _ _ Q1.out.1 Q2.out.1).mono ?_); rintro e w6 ⟨rfl, g⟩; replace gg := kep_next gg g; replace L3 := Lib.hid (L3.out.kep g); replace L4 := Lib.hid (L4.out.kep g); clear g)
    | ((with_reducible refine (S2.out _ _ _ L3.out L4.out).mono ?_); rintro e w7 ⟨rfl, g⟩; replace gg := kep_next gg g; clear g)
    | ((with_reducible refine (SZ.out _).mono ?_); rintro e w8 ⟨rfl, g⟩; replace gg := kep_next gg g; clear g)
    | ((with_reducible refine (BY2.out _ gg).mono ?_); rintro e w9 ⟨⟨b9, c9, rfl⟩, g⟩; replace gg := kep_next gg g; clear g))
  go_ret
  exact ⟨rfl, gg⟩
/-- The law CodecMatchesReference. -/
theorem eml_law (O : EOps) (AW : EAwake) (L : List Bd) (v0 : Value) (w : World) (h0 : Lst w v0 L) (B : List Int) (v1 : Value) (h1 : Sq bv 1 w v1 B) (HF : ∀ x ∈ L, Fits x) (hb : Byt B) (hr : Rmy v1) : Calls Try.prog 3 #[v0, v1] w fun e w' => e = .returned (.bool true) ∧ Kep w.heap.size w w' := by
  by_cases c0 : 100 < L.length
  · exact eml_l (Lib.hid AW) L v0 w h0 B v1 h1 c0
  · by_cases c1 : 5000 < B.length
    · exact eml_b (Lib.hid AW) L v0 w h0 B v1 h1 (by omega) c1
    · exact eml_ok O (Lib.hid AW) L v0 w h0 B v1 h1 HF hb hr (by omega) (by omega)
end Go.Proofs.Ytllkokfaodpfiaa
