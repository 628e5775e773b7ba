/-
  Package codec: the law CodecCanonical.
-/
import Derived.Test.YtllkokfaodpfiaaCdcLawM
import Derived.Deep.DeepCutAuto
import Derived.Deep.QuietTactic
import Derived.BigQuiet
namespace Go.Proofs.Ytllkokfaodpfiaa
open Go.RowKit Go.Lib

set_option maxRecDepth 100000 in
set_option maxHeartbeats 1000000 in
theorem enl_l (AW : Hid EAwake) (L : List Bd) (v0 : Value) (w : World) (h0 : Lst w v0 L) (B : List Int) (v1 : Value) (h1 : Sq bv 1 w v1 B) (hl : 100 < L.length) : Calls Try.prog 4 #[v0, v1] w fun e w' => e = .returned (.bool true) ∧ Kep w.heap.size w w' := by
  obtain ⟨b0, c0, rfl⟩ := h0.shape
  obtain ⟨b1, c1, rfl⟩ := h1.shape
  have i0 : (100 : Int) < (L.length : Int) := by omega
  clear h0 h1
  generalize L.length = n at *
  generalize B.length = m at *
  go_enter Try.func4, Try.ntmps4
  go_wp2_with (first
    | ((with_reducible refine (AW.out _).mono ?_); rintro e w1 ⟨rfl, g1⟩; first | replace gg := kep_next gg g1 | have gg := g1))
  go_ret
  exact ⟨rfl, gg⟩
set_option maxRecDepth 100000 in
set_option maxHeartbeats 1000000 in
theorem enl_b (AW : Hid EAwake) (L : List Bd) (v0 : Value) (w : World) (h0 : Lst w v0 L) (B : List Int) (v1 : Value) (h1 : Sq bv 1 w v1 B) (hl : L.length ≤ 100) (hb : 5000 < B.length) : Calls Try.prog 4 #[v0, v1] w fun e w' => e = .returned (.bool true) ∧ Kep w.heap.size w w' := by
  obtain ⟨b0, c0, rfl⟩ := h0.shape
  obtain ⟨b1, c1, rfl⟩ := h1.shape
  have i1 : ¬ (100 : Int) < (L.length : Int) := by omega
  have i0 : (5000 : Int) < (B.length : Int) := by omega
  clear h0 h1
  generalize L.length = n at *
  generalize B.length = m at *
  go_enter Try.func4, Try.ntmps4
  go_wp2_with (first
    | ((with_reducible refine (AW.out _).mono ?_); rintro e w1 ⟨rfl, g1⟩; first | replace gg := kep_next gg g1 | have gg := g1))
  go_ret
  exact ⟨rfl, gg⟩
/-- Decoding an encoding, encoding what was decoded. -/
theorem decE_enc {L : List Bd} (hx : ∀ x ∈ L, Fits x) (hl : L.length ≤ 200) : decE (encL L) = vchkE L := by
  unfold decE
  rw [if_pos (okF_enc (by omega)), dec_enc hx]
theorem decE_ok {b : List Int} (h : decE b = 0) : okF b = true ∧ vchkE (decV b) = 0 := by
  unfold decE at h
  split at h
  · rename_i c
    exact ⟨c, h⟩
  · cases h
set_option maxRecDepth 100000 in
set_option maxHeartbeats 4000000 in
theorem enl_00 (O : EOps) (AW : Hid EAwake) (L : List Bd) (v0 : Value) (w : World) (h0 : Lst w v0 L) (B : List Int) (v1 : Value) (h1 : Sq bv 1 w v1 B) (HF : ∀ x ∈ L, Fits x) (hb : Byt B) (hr : Rmy v1) (hl : L.length ≤ 100) (hbl : B.length ≤ 5000) (ca : vchkE L = 0) (cb : decE B = 0) : Calls Try.prog 4 #[v0, v1] w fun e w' => e = .returned (.bool true) ∧ Kep w.heap.size w w' := by
  have CE : Hid (∀ w', Kep w.heap.size w w' → Calls Try.prog 9 #[v0] w' fun e w2 => (∃ v', e = .returned (.tuple #[v', .int .i64 0]) ∧ Hid (Sq bv 1 w2 v' (encL L) ∧ Rmy v')) ∧ Kep w'.heap.size w' w2) := Lib.hid fun w' k => (O.enc v0 L w' (h0.kep k) HF (by omega)).mono fun e w2 ⟨v', e1, h2, h3⟩ => ⟨⟨v', by rw [e1, ca], Lib.hid ⟨(h2.out.1 ca).sq, (h2.out.1 ca).rmy⟩⟩, h3⟩
  have CX : Hid (∀ va w', Sq bv 1 w' va (encL L) → Rmy va → Calls Try.prog 11 #[va] w' fun e w2 => (∃ v', e = .returned (.tuple #[v', .int .i64 0]) ∧ Lst w2 v' L) ∧ Kep w'.heap.size w' w2) := Lib.hid fun va w' p q => (O.dec va (encL L) w' p q (encL_byt L) (by rw [encL_len]; omega)).mono fun e w2 ⟨v', e1, h2, h3⟩ => by
    rw [decE_enc HF (by omega), ca] at e1 h2
    rw [if_pos rfl, dec_enc HF] at h2
    exact ⟨⟨v', e1, h2⟩, h3⟩
  have S6 := Lib.hid (fun va vb w' p q => same_any va vb L w' p q (by omega))
  have HL := Lib.hid h0
  obtain ⟨cf, cv⟩ := decE_ok cb
  have hDl : (decV B).length ≤ 200 := by rw [decV_len]; omega
  have CD : Hid (∀ w', Kep w.heap.size w w' → Calls Try.prog 11 #[v1] w' fun e w2 => (∃ v', e = .returned (.tuple #[v', .int .i64 0]) ∧ Lst w2 v' (decV B)) ∧ Kep w'.heap.size w' w2) := Lib.hid fun w' k => (O.dec v1 B w' (h1.kep k) hr hb (by omega)).mono fun e w2 ⟨v', e1, h2, h3⟩ => by
    rw [cb] at e1 h2
    rw [if_pos rfl] at h2
    exact ⟨⟨v', e1, h2⟩, h3⟩
  have CY : Hid (∀ va w', Lst w' va (decV B) → Calls Try.prog 9 #[va] w' fun e w2 => (∃ v', e = .returned (.tuple #[v', .int .i64 0]) ∧ Sq bv 1 w2 v' B) ∧ Kep w'.heap.size w' w2) := Lib.hid fun va w' p => (O.enc va (decV B) w' p (fits_decV hb) hDl).mono fun e w2 ⟨v', e1, h2, h3⟩ => by
    have q := (h2.out.1 cv).sq
    rw [enc_dec hb cf] at q
    exact ⟨⟨v', by rw [e1, cv], q⟩, h3⟩
  have CC : Hid (∀ va w', Lst w' va (decV B) → Calls Try.prog 17 #[va] w' fun e w2 => (e = .returned (.int .i64 0)) ∧ Kep w'.heap.size w' w2) := Lib.hid fun va w' p => by
    have := vcheck_any va (decV B) w' p (by omega)
    rw [cv] at this
    exact this
  have S1 : Hid (∀ va vb w', Sq bv 1 w' va B → Sq bv 1 w' vb B → Calls Try.prog 13 #[va, vb] w' fun e w2 => (e = .returned (.bool true)) ∧ Kep w'.heap.size w' w2) := Lib.hid fun va vb w' p q => by
    have := rsm (show B.length ≤ 1000000 by omega) (by omega) va vb w' p q
    rw [decide_eq_true rfl] at this
    exact this
  have HB := Lib.hid h1
  obtain ⟨b0, c0, rfl⟩ := h0.shape
  obtain ⟨b1, c1, rfl⟩ := h1.shape
  have i0 : ¬ (100 : Int) < (L.length : Int) := by omega
  have i1 : ¬ (5000 : Int) < (B.length : Int) := by omega
  clear h0 h1 HF hb hr hl hbl ca cb cf cv hDl
  generalize L.length = n at *
  generalize B.length = m at *
  go_enter Try.func4, Try.ntmps4
  go_wp2_with (first
    | ((with_reducible refine (AW.out _).mono ?_); rintro e w1 ⟨rfl, g⟩; have gg := g)
    | ((with_reducible refine (CE.out _ gg).mono ?_); rintro e w2 ⟨⟨x1, rfl, q1⟩, g⟩; replace gg := kep_next gg g; have Q1 := q1; replace HL := Lib.hid (HL.out.kep gg); clear g)
    | ((with_reducible refine (CX.out _ _ Q1.out.1 Q1.out.2).mono ?_); rintro e w3 ⟨⟨x2, rfl, l2⟩, g⟩; replace gg := kep_next gg g; have L2 := Lib.hid l2; replace HL := Lib.hid (HL.out.kep g); clear g)
    | ((with_reducible refine (S6.out _ _ _ L2.out HL.out).mono ?_); rintro e w4 ⟨rfl, g⟩; replace gg := kep_next gg g; clear g)
    | ((with_reducible refine (CD.out _ gg).mono ?_); rintro e w5 ⟨⟨x3, rfl, l3⟩, g⟩; replace gg := kep_next gg g; have L3 := Lib.hid l3; clear g)
    | ((with_reducible refine (CY.out _ _ L3.out).mono ?_); rintro e w6 ⟨⟨x4, rfl, q4⟩, g⟩; replace gg := kep_next gg g; have Q4 := Lib.hid q4; have HB2 := Lib.hid (HB.out.kep gg); replace L3 := Lib.hid (L3.out.kep g); clear g)
    | ((with_reducible refine (S1.out _ _ _ Q4.out HB2.out).mono ?_); rintro e w7 ⟨rfl, g⟩; replace gg := kep_next gg g; replace L3 := Lib.hid (L3.out.kep g); clear g)
    | ((with_reducible refine (CC.out _ _ L3.out).mono ?_); rintro e w8 ⟨rfl, g⟩; replace gg := kep_next gg g; clear g))
  go_ret
  exact ⟨rfl, gg⟩
set_option maxRecDepth 100000 in
set_option maxHeartbeats 4000000 in
theorem enl_01 (O : EOps) (AW : Hid EAwake) (L : List Bd) (v0 : Value) (w : World) (h0 : Lst w v0 L) (B : List Int) (v1 : Value) (h1 : Sq bv 1 w v1 B) (HF : ∀ x ∈ L, Fits x) (hb : Byt B) (hr : Rmy v1) (hl : L.length ≤ 100) (hbl : B.length ≤ 5000) (ca : vchkE L = 0) (cb : decE B ≠ 0) : Calls Try.prog 4 #[v0, v1] w fun e w' => e = .returned (.bool true) ∧ Kep w.heap.size w w' := by
  have CE : Hid (∀ w', Kep w.heap.size w w' → Calls Try.prog 9 #[v0] w' fun e w2 => (∃ v', e = .returned (.tuple #[v', .int .i64 0]) ∧ Hid (Sq bv 1 w2 v' (encL L) ∧ Rmy v')) ∧ Kep w'.heap.size w' w2) := Lib.hid fun w' k => (O.enc v0 L w' (h0.kep k) HF (by omega)).mono fun e w2 ⟨v', e1, h2, h3⟩ => ⟨⟨v', by rw [e1, ca], Lib.hid ⟨(h2.out.1 ca).sq, (h2.out.1 ca).rmy⟩⟩, h3⟩
  have CX : Hid (∀ va w', Sq bv 1 w' va (encL L) → Rmy va → Calls Try.prog 11 #[va] w' fun e w2 => (∃ v', e = .returned (.tuple #[v', .int .i64 0]) ∧ Lst w2 v' L) ∧ Kep w'.heap.size w' w2) := Lib.hid fun va w' p q => (O.dec va (encL L) w' p q (encL_byt L) (by rw [encL_len]; omega)).mono fun e w2 ⟨v', e1, h2, h3⟩ => by
    rw [decE_enc HF (by omega), ca] at e1 h2
    rw [if_pos rfl, dec_enc HF] at h2
    exact ⟨⟨v', e1, h2⟩, h3⟩
  have S6 := Lib.hid (fun va vb w' p q => same_any va vb L w' p q (by omega))
  have HL := Lib.hid h0
  have CD : Hid (∀ w', Kep w.heap.size w w' → Calls Try.prog 11 #[v1] w' fun e w2 => (∃ b c, e = .returned (.tuple #[.slice b 0 c, .int .i64 (decE B)])) ∧ Kep w'.heap.size w' w2) := Lib.hid fun w' k => (O.dec v1 B w' (h1.kep k) hr hb (by omega)).mono fun e w2 ⟨v', e1, h2, h3⟩ => by
    rw [if_neg cb] at h2
    obtain ⟨b, c, e2⟩ := h2.shape
    exact ⟨⟨b, c, by rw [e1, e2]; rfl⟩, h3⟩
  have d1 : (decE B != 0) = true := by simp [cb]
  obtain ⟨b0, c0, rfl⟩ := h0.shape
  obtain ⟨b1, c1, rfl⟩ := h1.shape
  have i0 : ¬ (100 : Int) < (L.length : Int) := by omega
  have i1 : ¬ (5000 : Int) < (B.length : Int) := by omega
  clear h0 h1 HF hb hr hl hbl ca cb
  generalize decE B = d at *
  generalize L.length = n at *
  generalize B.length = m at *
  go_enter Try.func4, Try.ntmps4
  go_wp2_with (first
    | ((with_reducible refine (AW.out _).mono ?_); rintro e w1 ⟨rfl, g⟩; have gg := g)
    | ((with_reducible refine (CE.out _ gg).mono ?_); rintro e w2 ⟨⟨x1, rfl, q1⟩, g⟩; replace gg := kep_next gg g; have Q1 := q1; replace HL := Lib.hid (HL.out.kep gg); clear g)
    | ((with_reducible refine (CX.out _ _ Q1.out.1 Q1.out.2).mono ?_); rintro e w3 ⟨⟨x2, rfl, l2⟩, g⟩; replace gg := kep_next gg g; have L2 := Lib.hid l2; replace HL := Lib.hid (HL.out.kep g); clear g)
    | ((with_reducible refine (S6.out _ _ _ L2.out HL.out).mono ?_); rintro e w4 ⟨rfl, g⟩; replace gg := kep_next gg g; clear g)
    | ((with_reducible refine (CD.out _ gg).mono ?_); rintro e w5 ⟨⟨x3, c3, rfl⟩, g⟩; replace gg := kep_next gg g; clear g))
  go_ret
  exact ⟨rfl, gg⟩
set_option maxRecDepth 100000 in
set_option maxHeartbeats 4000000 in
theorem enl_10 (O : EOps) (AW : Hid EAwake) (L : List Bd) (v0 : Value) (w : World) (h0 : Lst w v0 L) (B : List Int) (v1 : Value) (h1 : Sq bv 1 w v1 B) (HF : ∀ x ∈ L, Fits x) (hb : Byt B) (hr : Rmy v1) (hl : L.length ≤ 100) (hbl : B.length ≤ 5000) (ca : vchkE L ≠ 0) (cb : decE B = 0) : Calls Try.prog 4 #[v0, v1] w fun e w' => e = .returned (.bool true) ∧ Kep w.heap.size w w' := by
  have CE : Hid (∀ w', Kep w.heap.size w w' → Calls Try.prog 9 #[v0] w' fun e w2 => (e = .returned (.tuple #[.slice none 0 0, .int .i64 (vchkE L)])) ∧ Kep w'.heap.size w' w2) := Lib.hid fun w' k => (O.enc v0 L w' (h0.kep k) HF (by omega)).mono fun e w2 ⟨v', e1, h2, h3⟩ => ⟨by rw [e1, h2.out.2 ca], h3⟩
  have d0 : (vchkE L == 0) = false := by simp [ca]
  obtain ⟨cf, cv⟩ := decE_ok cb
  have hDl : (decV B).length ≤ 200 := by rw [decV_len]; omega
  have CD : Hid (∀ w', Kep w.heap.size w w' → Calls Try.prog 11 #[v1] w' fun e w2 => (∃ v', e = .returned (.tuple #[v', .int .i64 0]) ∧ Lst w2 v' (decV B)) ∧ Kep w'.heap.size w' w2) := Lib.hid fun w' k => (O.dec v1 B w' (h1.kep k) hr hb (by omega)).mono fun e w2 ⟨v', e1, h2, h3⟩ => by
    rw [cb] at e1 h2
    rw [if_pos rfl] at h2
    exact ⟨⟨v', e1, h2⟩, h3⟩
  have CY : Hid (∀ va w', Lst w' va (decV B) → Calls Try.prog 9 #[va] w' fun e w2 => (∃ v', e = .returned (.tuple #[v', .int .i64 0]) ∧ Sq bv 1 w2 v' B) ∧ Kep w'.heap.size w' w2) := Lib.hid fun va w' p => (O.enc va (decV B) w' p (fits_decV hb) hDl).mono fun e w2 ⟨v', e1, h2, h3⟩ => by
    have q := (h2.out.1 cv).sq
    rw [enc_dec hb cf] at q
    exact ⟨⟨v', by rw [e1, cv], q⟩, h3⟩
  have CC : Hid (∀ va w', Lst w' va (decV B) → Calls Try.prog 17 #[va] w' fun e w2 => (e = .returned (.int .i64 0)) ∧ Kep w'.heap.size w' w2) := Lib.hid fun va w' p => by
    have := vcheck_any va (decV B) w' p (by omega)
    rw [cv] at this
    exact this
  have S1 : Hid (∀ va vb w', Sq bv 1 w' va B → Sq bv 1 w' vb B → Calls Try.prog 13 #[va, vb] w' fun e w2 => (e = .returned (.bool true)) ∧ Kep w'.heap.size w' w2) := Lib.hid fun va vb w' p q => by
    have := rsm (show B.length ≤ 1000000 by omega) (by omega) va vb w' p q
    rw [decide_eq_true rfl] at this
    exact this
  have HB := Lib.hid h1
  obtain ⟨b0, c0, rfl⟩ := h0.shape
  obtain ⟨b1, c1, rfl⟩ := h1.shape
  have i0 : ¬ (100 : Int) < (L.length : Int) := by omega
  have i1 : ¬ (5000 : Int) < (B.length : Int) := by omega
  clear h0 h1 HF hb hr hl hbl ca cb cf cv hDl
  generalize vchkE L = c at *
  generalize L.length = n at *
  generalize B.length = m at *
  go_enter Try.func4, Try.ntmps4
  go_wp2_with (first
    | ((with_reducible refine (AW.out _).mono ?_); rintro e w1 ⟨rfl, g⟩; have gg := g)
    | ((with_reducible refine (CE.out _ gg).mono ?_); rintro e w2 ⟨rfl, g⟩; replace gg := kep_next gg g; clear g)
    | ((with_reducible refine (CD.out _ gg).mono ?_); rintro e w5 ⟨⟨x3, rfl, l3⟩, g⟩; replace gg := kep_next gg g; have L3 := Lib.hid l3; clear g)
    | ((with_reducible refine (CY.out _ _ L3.out).mono ?_); rintro e w6 ⟨⟨x4, rfl, q4⟩, g⟩; replace gg := kep_next gg g; have Q4 := Lib.hid q4; have HB2 := Lib.hid (HB.out.kep gg); replace L3 := Lib.hid (L3.out.kep g); clear g)
    | ((with_reducible refine (S1.out _ _ _ Q4.out HB2.out).mono ?_); rintro e w7 ⟨rfl, g⟩; replace gg := kep_next gg g; replace L3 := Lib.hid (L3.out.kep g); clear g)
    | ((with_reducible refine (CC.out _ _ L3.out).mono ?_); rintro e w8 ⟨rfl, g⟩; replace gg := kep_next gg g; clear g))
  go_ret
  exact ⟨rfl, gg⟩
set_option maxRecDepth 100000 in
set_option maxHeartbeats 4000000 in
theorem enl_11 (O : EOps) (AW : Hid EAwake) (L : List Bd) (v0 : Value) (w : World) (h0 : Lst w v0 L) (B : List Int) (v1 : Value) (h1 : Sq bv 1 w v1 B) (HF : ∀ x ∈ L, Fits x) (hb : Byt B) (hr : Rmy v1) (hl : L.length ≤ 100) (hbl : B.length ≤ 5000) (ca : vchkE L ≠ 0) (cb : decE B ≠ 0) : Calls Try.prog 4 #[v0, v1] w fun e w' => e = .returned (.bool true) ∧ Kep w.heap.size w w' := by
  have CE : Hid (∀ w', Kep w.heap.size w w' → Calls Try.prog 9 #[v0] w' fun e w2 => (e = .returned (.tuple #[.slice none 0 0, .int .i64 (vchkE L)])) ∧ Kep w'.heap.size w' w2) := Lib.hid fun w' k => (O.enc v0 L w' (h0.kep k) HF (by omega)).mono fun e w2 ⟨v', e1, h2, h3⟩ => ⟨by rw [e1, h2.out.2 ca], h3⟩
  have d0 : (vchkE L == 0) = false := by simp [ca]
  have CD : Hid (∀ w', Kep w.heap.size w w' → Calls Try.prog 11 #[v1] w' fun e w2 => (∃ b c, e = .returned (.tuple #[.slice b 0 c, .int .i64 (decE B)])) ∧ Kep w'.heap.size w' w2) := Lib.hid fun w' k => (O.dec v1 B w' (h1.kep k) hr hb (by omega)).mono fun e w2 ⟨v', e1, h2, h3⟩ => by
    rw [if_neg cb] at h2
    obtain ⟨b, c, e2⟩ := h2.shape
    exact ⟨⟨b, c, by rw [e1, e2]; rfl⟩, h3⟩
  have d1 : (decE B != 0) = true := by simp [cb]
  obtain ⟨b0, c0, rfl⟩ := h0.shape
  obtain ⟨b1, c1, rfl⟩ := h1.shape
  have i0 : ¬ (100 : Int) < (L.length : Int) := by omega
  have i1 : ¬ (5000 : Int) < (B.length : Int) := by omega
  clear h0 h1 HF hb hr hl hbl ca cb
  generalize vchkE L = c at *
  generalize decE B = d at *
  generalize L.length = n at *
  generalize B.length = m at *
  go_enter Try.func4, Try.ntmps4
  go_wp2_with (first
    | ((with_reducible refine (AW.out _).mono ?_); rintro e w1 ⟨rfl, g⟩; have gg := g)
    | ((with_reducible refine (CE.out _ gg).mono ?_); rintro e w2 ⟨rfl, g⟩; replace gg := kep_next gg g; clear g)
    | ((with_reducible refine (CD.out _ gg).mono ?_); rintro e w5 ⟨⟨x3, c3, rfl⟩, g⟩; replace gg := kep_next gg g; clear g))
  go_ret
  exact ⟨rfl, gg⟩
/-- The law CodecCanonical. -/
theorem enl_law (O : EOps) (AW : EAwake) (L : List Bd) (v0 : Value) (w : World) (h0 : Lst w v0 L) (B : List Int) (v1 : Value) (h1 : Sq bv 1 w v1 B) (HF : ∀ x ∈ L, Fits x) (hb : Byt B) (hr : Rmy v1) : Calls Try.prog 4 #[v0, v1] w fun e w' => e = .returned (.bool true) ∧ Kep w.heap.size w w' := by
  by_cases c0 : 100 < L.length
  · exact enl_l (Lib.hid AW) L v0 w h0 B v1 h1 c0
  · by_cases c1 : 5000 < B.length
    · exact enl_b (Lib.hid AW) L v0 w h0 B v1 h1 (by omega) c1
    · by_cases ca : vchkE L = 0 <;> by_cases cb : decE B = 0
      · exact enl_00 O (Lib.hid AW) L v0 w h0 B v1 h1 HF hb hr (by omega) (by omega) ca cb
      · exact enl_01 O (Lib.hid AW) L v0 w h0 B v1 h1 HF hb hr (by omega) (by omega) ca cb
      · exact enl_10 O (Lib.hid AW) L v0 w h0 B v1 h1 HF hb hr (by omega) (by omega) ca cb
      · exact enl_11 O (Lib.hid AW) L v0 w h0 B v1 h1 HF hb hr (by omega) (by omega) ca cb
end Go.Proofs.Ytllkokfaodpfiaa
