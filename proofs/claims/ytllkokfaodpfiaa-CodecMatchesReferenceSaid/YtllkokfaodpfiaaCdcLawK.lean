/-
  Package codec: the law CodecKeeps.
-/
import Derived.Test.YtllkokfaodpfiaaCdcLawN
import Derived.Deep.DeepCutAuto
import Derived.Deep.QuietTactic
import Derived.BigQuiet
namespace Go.Proofs.Ytllkokfaodpfiaa
open Go.RowKit Go.Lib

set_option maxRecDepth 100000 in
set_option maxHeartbeats 1000000 in
theorem ekl_l (AW : Hid EAwake) (L : List Bd) (v0 : Value) (w : World) (h0 : Lst w v0 L) (B : List Int) (v1 : Value) (h1 : Sq bv 1 w v1 B) (hl : 100 < L.length) : Calls Try.prog 6 #[v0, v1] w fun e w' => e = .returned (.bool true) ∧ Kep w.heap.size w w' := by
  obtain ⟨b0, c0, rfl⟩ := h0.shape
  obtain ⟨b1, c1, rfl⟩ := h1.shape
  have i0 : (100 : Int) < (L.length : Int) := by omega
  clear h0 h1
  generalize L.length = n at *
  generalize B.length = m at *
  go_enter Try.func6, Try.ntmps6
  go_wp2_with (first
    | ((with_reducible refine (AW.out _).mono ?_); rintro e w1 ⟨rfl, g1⟩; first | replace gg := kep_next gg g1 | have gg := g1))
  go_ret
  exact ⟨rfl, gg⟩
set_option maxRecDepth 100000 in
set_option maxHeartbeats 1000000 in
theorem ekl_b (AW : Hid EAwake) (L : List Bd) (v0 : Value) (w : World) (h0 : Lst w v0 L) (B : List Int) (v1 : Value) (h1 : Sq bv 1 w v1 B) (hl : L.length ≤ 100) (hb : 5000 < B.length) : Calls Try.prog 6 #[v0, v1] w fun e w' => e = .returned (.bool true) ∧ Kep w.heap.size w w' := by
  obtain ⟨b0, c0, rfl⟩ := h0.shape
  obtain ⟨b1, c1, rfl⟩ := h1.shape
  have i1 : ¬ (100 : Int) < (L.length : Int) := by omega
  have i0 : (5000 : Int) < (B.length : Int) := by omega
  clear h0 h1
  generalize L.length = n at *
  generalize B.length = m at *
  go_enter Try.func6, Try.ntmps6
  go_wp2_with (first
    | ((with_reducible refine (AW.out _).mono ?_); rintro e w1 ⟨rfl, g1⟩; first | replace gg := kep_next gg g1 | have gg := g1))
  go_ret
  exact ⟨rfl, gg⟩
theorem lst_sqB {w : World} {v : Value} {L : List Bd} (h : Lst w v L) : Sq vals 10 w v L := by
  rcases h with ⟨rfl, b, c, rfl⟩ | ⟨g, off, cap, rfl, hc⟩
  · exact Sq.nil
  · refine ⟨_, _, rfl, fun k x hx => ⟨g, off, rfl, fun i u hu => ?_⟩⟩
    have hi : i < 10 := (List.getElem?_eq_some_iff.1 hu).1
    rw [hc k x hx i hi]
    exact hu
theorem bv_one (n : Int) : ∀ u ∈ bv n, u.oneCell' = true := fun u hu => by
  simp [bv] at hu
  subst hu
  rfl
theorem own_sqB {w : World} {B : Nat} {t : TypeId} {v : Value} {bs : List Int} (h : w.ownsRow B t 1 v bs.length (bs.flatMap bv)) : Sq bv 1 w v bs := by
  by_cases e : bs = []
  · subst e
    rcases h.2 with ⟨rfl, _⟩ | ⟨g, cap, cur, rfl, _⟩
    · exact Sq.nil
    · exact Sq.nil
  · exact (buf_own h e).sq
/-- A byte of a buffer written. -/
theorem buf_set {w : World} {B g n c i : Nat} {m : Int} {bs : List Int} (h : BufB w B (.slice (some ⟨g, 0, none⟩) n c) bs) (hi : i < bs.length) : BufB (w.setCell ⟨g, i, none⟩ (.int .u8 m)) B (.slice (some ⟨g, 0, none⟩) n c) (bs.set i m) := by
  obtain ⟨g2, c2, e, hb, hl, hm, hc, hf, hg⟩ := h
  injection e with e1 e2 e3
  injection e1 with e1
  injection e1 with e1
  subst e1 e2 e3
  have some_ : ∀ j, (w.cell? ⟨g, j, none⟩).isSome = true → ((w.setCell ⟨g, i, none⟩ (.int .u8 m)).cell? ⟨g, j, none⟩).isSome = true := fun j hj => sset_some _ _ _ hj
  refine ⟨g, c, by rw [List.length_set], hb, by rw [List.length_set]; exact hl, hm, fun j k hj => ?_, fun j hj => ⟨some_ j (hf j hj).1, by rw [World.frozen?_setCell]; exact (hf j hj).2⟩, by rw [World.size_setCell]; exact hg⟩
  by_cases q : j = i
  · subst q
    rw [List.getElem?_set_self hi] at hj
    injection hj with hj
    subst hj
    exact World.cell?_setCell_same' _ _ _ (hf j (by omega)).1
  · rw [List.getElem?_set_ne (fun e => q e.symm)] at hj
    rw [World.cell?_setCell_other (h := by intro e; injection e with _ e2; omega)]
    exact hc j k hj
theorem byt_set {bs : List Int} (h : Byt bs) {i : Nat} {m : Int} (hm : 0 ≤ m ∧ m < 256) : Byt (bs.set i m) := fun n hn => by
  rcases List.mem_or_eq_of_mem_set hn with q | rfl
  · exact h n q
  · exact hm
set_option maxRecDepth 100000 in
set_option maxHeartbeats 8000000 in
theorem ekl_0 (O : EOps) (AW : Hid EAwake) (L : List Bd) (v0 : Value) (w : World) (h0 : Lst w v0 L) (B : List Int) (v1 : Value) (h1 : Sq bv 1 w v1 B) (HF : ∀ x ∈ L, Fits x) (hb : Byt B) (hr : Rmy v1) (hl : L.length ≤ 100) (hbl : B.length ≤ 5000) (ca : vchkE L = 0) : Calls Try.prog 6 #[v0, v1] w fun e w' => e = .returned (.bool true) ∧ Kep w.heap.size w w' := by
  have CD : Hid (∀ w', Kep w.heap.size w w' → Calls Try.prog 11 #[v1] w' fun e w2 => (∃ x, e = .returned x) ∧ Kep w'.heap.size w' w2) := Lib.hid fun w' k => (O.dec v1 B w' (h1.kep k) hr hb (by omega)).mono fun e w2 ⟨v', e1, h2, h3⟩ => ⟨⟨_, e1⟩, h3⟩
  have CE : Hid (∀ va w', Lst w' va L → Calls Try.prog 9 #[va] w' fun e w2 => (∃ g c, e = .returned (.tuple #[.slice (some ⟨g, 0, none⟩) (8 + L.length * 40) c, .int .i64 0]) ∧ Hid (BufB w2 w'.heap.size (.slice (some ⟨g, 0, none⟩) (8 + L.length * 40) c) (encL L))) ∧ Kep w'.heap.size w' w2) := Lib.hid fun va w' p => (O.enc va L w' p HF (by omega)).mono fun e w2 ⟨v', e1, h2, h3⟩ => by
    have q := h2.out.1 ca
    obtain ⟨g, c, e2, r⟩ := id q
    rw [encL_len] at e2
    exact ⟨⟨g, c, by rw [e1, ca, e2], Lib.hid (by rw [← e2]; exact q)⟩, h3⟩
  have CR : Hid (∀ va w', Lst w' va L → Calls Try.prog 10 #[va] w' fun e w2 => (∃ g c, e = .returned (.tuple #[.slice (some ⟨g, 0, none⟩) (8 + L.length * 40) c, .int .i64 0]) ∧ Hid (BufB w2 w'.heap.size (.slice (some ⟨g, 0, none⟩) (8 + L.length * 40) c) (encL L))) ∧ Kep w'.heap.size w' w2) := Lib.hid fun va w' p => (ren va L w' p HF (by omega)).mono fun e w2 ⟨v', e1, h2, h3⟩ => by
    have q := h2.out.1 ca
    obtain ⟨g, c, e2, r⟩ := id q
    rw [encL_len] at e2
    exact ⟨⟨g, c, by rw [e1, ca, e2], Lib.hid (by rw [← e2]; exact q)⟩, h3⟩
  have S1 : Hid (∀ (C : List Int), C.length ≤ 9000 → ∀ va vb w', Sq bv 1 w' va C → Sq bv 1 w' vb C → Calls Try.prog 13 #[va, vb] w' fun e w2 => (e = .returned (.bool true)) ∧ Kep w'.heap.size w' w2) := Lib.hid fun C hC va vb w' p q => by
    have := rsm (show C.length ≤ 1000000 by omega) (by omega) va vb w' p q
    rw [decide_eq_true rfl] at this
    exact this
  have S6 := Lib.hid (fun va vb w' p q => same_any va vb L w' p q (by omega))
  have HL := Lib.hid h0
  have HB := Lib.hid h1
  have el : (encL L).length ≤ 9000 := by rw [encL_len]; omega
  have eb := Lib.hid (encL_byt L)
  have en := Lib.hid (encL_len L)
  obtain ⟨b0, c0, rfl⟩ := h0.shape
  obtain ⟨b1, c1, rfl⟩ := h1.shape
  have i0 : ¬ (100 : Int) < (L.length : Int) := by omega
  have i1 : ¬ (5000 : Int) < (B.length : Int) := by omega
  clear h0 h1 HF hb hr ca
  generalize encL L = EL at *
  generalize hn : L.length = n at *
  have HN := Lib.hid hn
  generalize hm : B.length = m at *
  have HM := Lib.hid hm
  clear hn hm
  go_enter Try.func6, Try.ntmps6
  go_wp2_with (first
    | ((with_reducible refine (AW.out _).mono ?_); rintro e w1 ⟨rfl, g⟩; have gg := g)
    | (at_builtin; refine wpList_appAll vals 10 (fun _ => rfl) one_cell rfl _ _ 22 rfl 46 _ 40 Try.underlying22 info_body rfl (by decide) w1.heap.size _ _ _ ([] : List Bd) L rfl (World.ownsRow_made w1 #[] 0 (Nat.le_refl _) (Nat.zero_le _) (by simp)) rfl (((lst_sqB HL.out).kep gg).kep (kep_more (Kep.refl _ _) _)) (by have := HN.out; simp only [List.length_nil, Nat.zero_add]; unfold maxLen; omega) (by have := HN.out; simp only [List.length_nil, Nat.zero_add]; omega) (by simp) ?_; intro x1 w2 o1 k1; have g2 : Kep w1.heap.size w1 w2 := (kep_more (Kep.refl _ _) _).trans k1; have HO := Lib.hid (own_lst o1); replace gg := kep_next gg g2; clear o1 k1 g2)
    | (at_builtin; refine wpList_appAll bv 1 (fun _ => rfl) bv_one rfl _ _ 23 rfl 5 _ 1 Try.underlying23 info_u8 rfl (by decide) w2.heap.size _ _ _ ([] : List Int) B rfl (World.ownsRow_made w2 #[] 0 (Nat.le_refl _) (Nat.zero_le _) (by simp)) rfl ((HB.out.kep gg).kep (kep_more (Kep.refl _ _) _)) (by have := HM.out; simp only [List.length_nil, Nat.zero_add]; unfold maxLen; omega) (by have := HM.out; simp only [List.length_nil, Nat.zero_add]; omega) (by simp) ?_; intro x2 w3 o2 k2; have g3 : Kep w2.heap.size w2 w3 := (kep_more (Kep.refl _ _) _).trans k2; have HW := Lib.hid (own_sqB o2); replace HO := Lib.hid (HO.out.kep g3); replace gg := kep_next gg g3; clear o2 k2 g3)
    | ((with_reducible refine (CD.out _ gg).mono ?_); rintro e w4 ⟨⟨x3, rfl⟩, g⟩; replace HO := Lib.hid (HO.out.kep g); replace HW := Lib.hid (HW.out.kep g); replace gg := kep_next gg g; clear g)
    | ((with_reducible refine (CE.out _ _ HO.out).mono ?_); rintro e w5 ⟨⟨gx, cx, rfl, bx⟩, g⟩; have BX := bx; have G5 := Lib.hid g; clear g))
  have G4 := Lib.hid gg
  clear gg
  go_loopw [9] (fun i wr => ∃ k : Nat, k ≤ 8 + n * 40 ∧ i = .int .i64 k ∧ Hid (∃ bs, bs.length = 8 + n * 40 ∧ Byt bs ∧ BufB wr w4.heap.size (.slice (some ⟨gx, 0, none⟩) (8 + n * 40) cx) bs ∧ Kep w4.heap.size w4 wr)) (fun i _ => 8 + n * 40 - (RowKit.intOf i).toNat)
  case atStart => exact ⟨0, by omega, rfl, Lib.hid ⟨EL, en.out, eb.out, BX.out, G5.out⟩⟩
  case round =>
    obtain ⟨k, hk, rfl, HP⟩ := hrel
    clear BX G5
    by_cases hlt : k < 8 + n * 40
    · obtain ⟨bs, hbs, hby, hbf, hkp⟩ := HP.out
      have HBS := Lib.hid (And.intro hbs (And.intro hby (And.intro hbf hkp)))
      obtain ⟨g9, c9, e9, hb9, _, _, hc9, hf9, hl9⟩ := hbf
      injection e9 with e1 e2 e3
      injection e1 with e1
      injection e1 with e1
      subst e1
      have q0 := hc9 k _ (gb_get (by omega))
      have f0 := (hf9 k (by omega)).2
      have bx := gb_byt hby k
      have HS := Lib.hid (fun m => buf_set (m := m) (i := k) HBS.out.2.2.1 (by omega))
      have i3 : (k : Int) < 8 + (n : Int) * 40 := by omega
      have i4 : (0 : Int) ≤ (k : Int) := Int.natCast_nonneg _
      clear HP hbs hby hkp hc9 hf9 e2 e3
      generalize gb bs k = x at *
      go_wp2_with fail
      go_roundw
      case rel => exact ⟨k + 1, by omega, by go_num, Lib.hid ⟨_, by rw [List.length_set]; exact HBS.out.1, byt_set HBS.out.2.1 (m := (x + 1) % 256) (by omega), HS.out _, HBS.out.2.2.2.setCell hb9 _⟩⟩
      case measure => simp [RowKit.intOf]; omega
    · obtain rfl : k = 8 + n * 40 := by omega
      have i3 : ¬ ((8 + n * 40 : Nat) : Int) < 8 + (n : Int) * 40 := by omega
      obtain ⟨_, _, _, _, hkp⟩ := HP.out
      have gg := kep_next G4.out hkp
      replace HL := Lib.hid (HL.out.kep gg)
      replace HB := Lib.hid (HB.out.kep gg)
      replace HO := Lib.hid (HO.out.kep hkp)
      replace HW := Lib.hid (HW.out.kep hkp)
      clear HP hkp G4
      go_wp2_with (first
          | ((with_reducible refine (CE.out _ _ HO.out).mono ?_); rintro e w6 ⟨⟨g6, c6, rfl, q6⟩, g⟩; replace HO := Lib.hid (HO.out.kep g); replace HW := Lib.hid (HW.out.kep g); replace HL := Lib.hid (HL.out.kep g); replace HB := Lib.hid (HB.out.kep g); replace gg := kep_next gg g; have Q6 := Lib.hid q6.out.sq; clear g)
          | ((with_reducible refine (CR.out _ _ HL.out).mono ?_); rintro e w7 ⟨⟨g7, c7, rfl, q7⟩, g⟩; replace HO := Lib.hid (HO.out.kep g); replace HW := Lib.hid (HW.out.kep g); replace HL := Lib.hid (HL.out.kep g); replace HB := Lib.hid (HB.out.kep g); replace Q6 := Lib.hid (Q6.out.kep g); replace gg := kep_next gg g; have Q7 := Lib.hid q7.out.sq; clear g)
          | ((with_reducible refine (S6.out _ _ _ HO.out HL.out).mono ?_); rintro e w8 ⟨rfl, g⟩; replace HW := Lib.hid (HW.out.kep g); replace HB := Lib.hid (HB.out.kep g); replace Q6 := Lib.hid (Q6.out.kep g); replace Q7 := Lib.hid (Q7.out.kep g); replace gg := kep_next gg g; clear g)
          | ((with_reducible refine (S1.out B (by have := HM.out; omega) _ _ _ HB.out HW.out).mono ?_); rintro e w9 ⟨rfl, g⟩; replace Q6 := Lib.hid (Q6.out.kep g); replace Q7 := Lib.hid (Q7.out.kep g); replace gg := kep_next gg g; clear g)
          | ((with_reducible refine (S1.out EL el _ _ _ Q6.out Q7.out).mono ?_); rintro e w10 ⟨rfl, g⟩; replace gg := kep_next gg g; clear g))
      go_ret
      exact ⟨rfl, gg⟩
set_option maxRecDepth 100000 in
set_option maxHeartbeats 8000000 in
theorem ekl_1 (O : EOps) (AW : Hid EAwake) (L : List Bd) (v0 : Value) (w : World) (h0 : Lst w v0 L) (B : List Int) (v1 : Value) (h1 : Sq bv 1 w v1 B) (HF : ∀ x ∈ L, Fits x) (hb : Byt B) (hr : Rmy v1) (hl : L.length ≤ 100) (hbl : B.length ≤ 5000) (ca : vchkE L ≠ 0) : Calls Try.prog 6 #[v0, v1] w fun e w' => e = .returned (.bool true) ∧ Kep w.heap.size w w' := by
  have CD : Hid (∀ w', Kep w.heap.size w w' → Calls Try.prog 11 #[v1] w' fun e w2 => (∃ x, e = .returned x) ∧ Kep w'.heap.size w' w2) := Lib.hid fun w' k => (O.dec v1 B w' (h1.kep k) hr hb (by omega)).mono fun e w2 ⟨v', e1, h2, h3⟩ => ⟨⟨_, e1⟩, h3⟩
  have CE : Hid (∀ va w', Lst w' va L → Calls Try.prog 9 #[va] w' fun e w2 => (e = .returned (.tuple #[.slice none 0 0, .int .i64 (vchkE L)])) ∧ Kep w'.heap.size w' w2) := Lib.hid fun va w' p => (O.enc va L w' p HF (by omega)).mono fun e w2 ⟨v', e1, h2, h3⟩ => ⟨by rw [e1, h2.out.2 ca], h3⟩
  have CR : Hid (∀ va w', Lst w' va L → Calls Try.prog 10 #[va] w' fun e w2 => (e = .returned (.tuple #[.slice none 0 0, .int .i64 (vchkE L)])) ∧ Kep w'.heap.size w' w2) := Lib.hid fun va w' p => (ren va L w' p HF (by omega)).mono fun e w2 ⟨v', e1, h2, h3⟩ => ⟨by rw [e1, h2.out.2 ca], h3⟩
  have S1 : Hid (∀ (C : List Int), C.length ≤ 9000 → ∀ va vb w', Sq bv 1 w' va C → Sq bv 1 w' vb C → Calls Try.prog 13 #[va, vb] w' fun e w2 => (e = .returned (.bool true)) ∧ Kep w'.heap.size w' w2) := Lib.hid fun C hC va vb w' p q => by
    have := rsm (show C.length ≤ 1000000 by omega) (by omega) va vb w' p q
    rw [decide_eq_true rfl] at this
    exact this
  have S6 := Lib.hid (fun va vb w' p q => same_any va vb L w' p q (by omega))
  have HL := Lib.hid h0
  have HB := Lib.hid h1
  have el : (encL L).length ≤ 9000 := by rw [encL_len]; omega
  have eb := Lib.hid (encL_byt L)
  have en := Lib.hid (encL_len L)
  obtain ⟨b0, c0, rfl⟩ := h0.shape
  obtain ⟨b1, c1, rfl⟩ := h1.shape
  have i0 : ¬ (100 : Int) < (L.length : Int) := by omega
  have i1 : ¬ (5000 : Int) < (B.length : Int) := by omega
  clear h0 h1 HF hb hr ca
  generalize vchkE L = c at *
  generalize hn : L.length = n at *
  have HN := Lib.hid hn
  generalize hm : B.length = m at *
  have HM := Lib.hid hm
  clear hn hm
  go_enter Try.func6, Try.ntmps6
  go_wp2_with (first
    | ((with_reducible refine (AW.out _).mono ?_); rintro e w1 ⟨rfl, g⟩; have gg := g)
    | (at_builtin; refine wpList_appAll vals 10 (fun _ => rfl) one_cell rfl _ _ 22 rfl 46 _ 40 Try.underlying22 info_body rfl (by decide) w1.heap.size _ _ _ ([] : List Bd) L rfl (World.ownsRow_made w1 #[] 0 (Nat.le_refl _) (Nat.zero_le _) (by simp)) rfl (((lst_sqB HL.out).kep gg).kep (kep_more (Kep.refl _ _) _)) (by have := HN.out; simp only [List.length_nil, Nat.zero_add]; unfold maxLen; omega) (by have := HN.out; simp only [List.length_nil, Nat.zero_add]; omega) (by simp) ?_; intro x1 w2 o1 k1; have g2 : Kep w1.heap.size w1 w2 := (kep_more (Kep.refl _ _) _).trans k1; have HO := Lib.hid (own_lst o1); replace gg := kep_next gg g2; clear o1 k1 g2)
    | (at_builtin; refine wpList_appAll bv 1 (fun _ => rfl) bv_one rfl _ _ 23 rfl 5 _ 1 Try.underlying23 info_u8 rfl (by decide) w2.heap.size _ _ _ ([] : List Int) B rfl (World.ownsRow_made w2 #[] 0 (Nat.le_refl _) (Nat.zero_le _) (by simp)) rfl ((HB.out.kep gg).kep (kep_more (Kep.refl _ _) _)) (by have := HM.out; simp only [List.length_nil, Nat.zero_add]; unfold maxLen; omega) (by have := HM.out; simp only [List.length_nil, Nat.zero_add]; omega) (by simp) ?_; intro x2 w3 o2 k2; have g3 : Kep w2.heap.size w2 w3 := (kep_more (Kep.refl _ _) _).trans k2; have HW := Lib.hid (own_sqB o2); replace HO := Lib.hid (HO.out.kep g3); replace gg := kep_next gg g3; clear o2 k2 g3)
    | ((with_reducible refine (CD.out _ gg).mono ?_); rintro e w4 ⟨⟨x3, rfl⟩, g⟩; replace HO := Lib.hid (HO.out.kep g); replace HW := Lib.hid (HW.out.kep g); replace gg := kep_next gg g; clear g)
    | ((with_reducible refine (CE.out _ _ HO.out).mono ?_); rintro e w5 ⟨rfl, g⟩; replace HO := Lib.hid (HO.out.kep g); replace HW := Lib.hid (HW.out.kep g); replace gg := kep_next gg g; clear g))
  replace HL := Lib.hid (HL.out.kep gg)
  replace HB := Lib.hid (HB.out.kep gg)
  refine wp_loop_rounds 1 ?_
  rw [rounds_succ]
  go_wp2_with (first
    | ((with_reducible refine (CE.out _ _ HO.out).mono ?_); rintro e w6 ⟨rfl, g⟩; replace HO := Lib.hid (HO.out.kep g); replace HW := Lib.hid (HW.out.kep g); replace HL := Lib.hid (HL.out.kep g); replace HB := Lib.hid (HB.out.kep g); replace gg := kep_next gg g; clear g)
    | ((with_reducible refine (CR.out _ _ HL.out).mono ?_); rintro e w7 ⟨rfl, g⟩; replace HO := Lib.hid (HO.out.kep g); replace HW := Lib.hid (HW.out.kep g); replace HL := Lib.hid (HL.out.kep g); replace HB := Lib.hid (HB.out.kep g); replace gg := kep_next gg g; clear g)
    | ((with_reducible refine (S6.out _ _ _ HO.out HL.out).mono ?_); rintro e w8 ⟨rfl, g⟩; replace HW := Lib.hid (HW.out.kep g); replace HB := Lib.hid (HB.out.kep g); replace gg := kep_next gg g; clear g)
    | ((with_reducible refine (S1.out B (by have := HM.out; omega) _ _ _ HB.out HW.out).mono ?_); rintro e w9 ⟨rfl, g⟩; replace gg := kep_next gg g; clear g)
    | ((with_reducible refine (S1.out [] (by simp) _ _ _ Sq.nil Sq.nil).mono ?_); rintro e w10 ⟨rfl, g⟩; replace gg := kep_next gg g; clear g))
  go_ret
  exact ⟨rfl, gg⟩
/-- The law CodecKeeps. -/
theorem ekl_law (O : EOps) (AW : EAwake) (L : List Bd) (v0 : Value) (w : World) (h0 : Lst w v0 L) (B : List Int) (v1 : Value) (h1 : Sq bv 1 w v1 B) (HF : ∀ x ∈ L, Fits x) (hb : Byt B) (hr : Rmy v1) : Calls Try.prog 6 #[v0, v1] w fun e w' => e = .returned (.bool true) ∧ Kep w.heap.size w w' := by
  by_cases c0 : 100 < L.length
  · exact ekl_l (Lib.hid AW) L v0 w h0 B v1 h1 c0
  · by_cases c1 : 5000 < B.length
    · exact ekl_b (Lib.hid AW) L v0 w h0 B v1 h1 (by omega) c1
    · by_cases ca : vchkE L = 0
      · exact ekl_0 O (Lib.hid AW) L v0 w h0 B v1 h1 HF hb hr (by omega) (by omega) ca
      · exact ekl_1 O (Lib.hid AW) L v0 w h0 B v1 h1 HF hb hr (by omega) (by omega) ca
end Go.Proofs.Ytllkokfaodpfiaa
