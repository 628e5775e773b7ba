/-
  Package codec: the law CodecCut.
-/
import Derived.Test.YtllkokfaodpfiaaCdcLawK
import Derived.Deep.DeepCutAuto
import Derived.Deep.QuietTactic
import Derived.BigQuiet
namespace Go.Proofs.Ytllkokfaodpfiaa
open Go.RowKit Go.Lib

set_option maxRecDepth 100000 in
set_option maxHeartbeats 1000000 in
theorem ecl_l (AW : Hid EAwake) (L : List Bd) (v0 : Value) (w : World) (h0 : Lst w v0 L) (t : Int) (hl : 100 < L.length) : Calls Try.prog 5 #[v0, .int .u16 t] w fun e w' => e = .returned (.bool true) ∧ Kep w.heap.size w w' := by
  obtain ⟨b0, c0, rfl⟩ := h0.shape
  have i0 : (100 : Int) < (L.length : Int) := by omega
  clear h0
  generalize L.length = n at *
  go_enter Try.func5, Try.ntmps5
  go_wp2_with (first
    | ((with_reducible refine (AW.out _).mono ?_); rintro e w1 ⟨rfl, g1⟩; first | replace gg := kep_next gg g1 | have gg := g1))
  go_ret
  exact ⟨rfl, gg⟩
theorem sq_new1 (w : World) (n : Int) (t : TypeId) : Sq bv 1 (w.alloc (.cells #[.int .u8 n] t)) (.slice (some ⟨w.heap.size, 0, none⟩) 1 1) [n] :=
  ⟨_, _, rfl, fun k x hx => ⟨_, _, rfl, fun i u hu => by
    match k, i, hx, hu with
    | 0, 0, hx, hu =>
      simp at hx
      subst hx
      simp [bv] at hu
      subst hu
      rw [World.cell?_alloc_at _ _ _ _ rfl]
      rfl
    | 0, i + 1, hx, hu => simp [bv] at hu
    | k + 1, _, hx, _ => simp at hx⟩⟩
theorem kep_next4 {B : Nat} {a w w' : World} (h : Kep B a w) (g : Kep w.heap.size w w') (hB : B ≤ a.heap.size := by exact Nat.le_refl _) : Kep B a w' := h.trans (g.mono (Nat.le_trans hB h.size))
set_option maxRecDepth 100000 in
set_option maxHeartbeats 8000000 in
theorem ecl_ok (O : EOps) (AW : Hid EAwake) (L : List Bd) (v0 : Value) (w : World) (h0 : Lst w v0 L) (t : Int) (ht : 0 ≤ t ∧ t < 65536) (HF : ∀ x ∈ L, Fits x) (hl : L.length ≤ 100) : Calls Try.prog 5 #[v0, .int .u16 t] w fun e w' => e = .returned (.bool true) ∧ Kep w.heap.size w w' := by
  have CB : Hid (∀ w', Kep w.heap.size w w' → Calls Try.prog 16 #[v0] w' fun e w2 => (∃ g c, e = .returned (.slice (some ⟨g, 0, none⟩) (8 + L.length * 40) c) ∧ Hid (8 + L.length * 40 ≤ c ∧ Sq bv 1 w2 (.slice (some ⟨g, 0, none⟩) (8 + L.length * 40) c) (encL L))) ∧ Kep w'.heap.size w' w2) := Lib.hid fun w' k => (rby v0 L w' (h0.kep k) HF (by omega)).mono fun e w2 ⟨v', e1, h2, h3⟩ => by
    obtain ⟨g, c, e2, r⟩ := id h2
    have q := h2.sq
    rw [encL_len] at e2
    have hc := h2.rmy _ _ _ e2
    rw [e2] at e1 q
    exact ⟨⟨g, c, e1, Lib.hid ⟨hc, q⟩⟩, h3⟩
  have D13 : Hid (∀ va w' bs, Sq bv 1 w' va bs → Rmy va → Hid (Byt bs ∧ bs.length ≤ 9000 ∧ okF bs = false) → Calls Try.prog 11 #[va] w' fun e w2 => (∃ x, e = .returned (.tuple #[x, .int .i64 13])) ∧ Kep w'.heap.size w' w2) := Lib.hid fun va w' bs p q r => (O.dec va bs w' p q r.out.1 r.out.2.1).mono fun e w2 ⟨v', e1, h2, h3⟩ => ⟨⟨v', by
    have d : decE bs = 13 := by unfold decE; rw [if_neg (by rw [r.out.2.2]; decide)]
    rw [e1, d]⟩, h3⟩
  have DE : Hid (∀ va w', Sq bv 1 w' va (encL L) → Rmy va → Calls Try.prog 11 #[va] w' fun e w2 => (∃ x, e = .returned (.tuple #[x, .int .i64 (vchkE L)])) ∧ Kep w'.heap.size w' w2) := Lib.hid fun va w' p q => (O.dec va (encL L) w' p q (encL_byt L) (by rw [encL_len]; omega)).mono fun e w2 ⟨v', e1, h2, h3⟩ => ⟨⟨v', by rw [e1, decE_enc HF (by omega)]⟩, h3⟩
  have CC := Lib.hid (fun w' (k : Kep w.heap.size w w') => vcheck_any v0 L w' (h0.kep k) (by omega))
  have en := Lib.hid (encL_len L)
  have eb := Lib.hid (encL_byt L)
  have HLL : Hid (L.length < 4294967296) := Lib.hid (by omega)
  have OC := Lib.hid (fun k (hk : k < (encL L).length) => okF_cut (L := L) (by omega) hk)
  have OM := Lib.hid (okF_more (L := L))
  have OT := Lib.hid (fun j (hj : j < 4) n hn => okF_other (L := L) (by omega) hj (n := n) hn)
  obtain ⟨b0, c0, rfl⟩ := h0.shape
  have i0 : ¬ (100 : Int) < (L.length : Int) := by omega
  obtain ⟨N, hN⟩ : ∃ N, N = 8 + L.length * 40 := ⟨_, rfl⟩
  rw [← hN] at CB en
  obtain ⟨kk, hkk⟩ : ∃ kk : Nat, t % (N : Int) = (kk : Int) := ⟨(t % (N : Int)).toNat, (Int.toNat_of_nonneg (Int.emod_nonneg _ (by omega))).symm⟩
  have hkN : kk < N := by
    have := Int.emod_lt_of_pos t (show (0 : Int) < (N : Int) by omega)
    omega
  have hN1 : 8 ≤ N ∧ N ≤ 4008 := by omega
  have hk2 : t.tmod (N : Int) = (kk : Int) := by rw [Int.tmod_eq_emod_of_nonneg ht.1]; exact hkk
  have hn0 : ¬ (N : Int) = 0 := by omega
  obtain ⟨jj, hjj⟩ : ∃ jj : Nat, jj = kk % 4 := ⟨_, rfl⟩
  have hj4 : jj < 4 := by omega
  have r1 : (kk : Int) % 4 = (jj : Int) := by omega
  have r2 : (kk : Int).tmod 4 = (jj : Int) := by rw [Int.tmod_eq_emod_of_nonneg (by omega)]; exact r1
  clear h0 HF hl hN hjj
  generalize vchkE L = d at *
  generalize encL L = EL at *
  generalize L.length = n at *
  go_enter Try.func5, Try.ntmps5
  go_upto_region 5 with (first
    | ((with_reducible refine (AW.out _).mono ?_); rintro e w1 ⟨rfl, g⟩; have gg := g)
    | ((with_reducible refine (CB.out _ gg).mono ?_); rintro e w2 ⟨⟨g, c, rfl, q⟩, g2⟩; replace gg := kep_next gg g2; have Q := q; clear g2))
  have hc := Q.out.1
  have SQ := Lib.hid Q.out.2
  have S1 := Lib.hid (show Sq bv 1 w2 (.slice (some ⟨g, 0, none⟩) kk c) (EL.take kk) by have := win_sq (lo := 0) (k := kk) Q.out.2 (by have := en.out; omega); simpa using this)
  have R1 := Lib.hid (show Rmy (.slice (some ⟨g, 0, none⟩) kk c) from fun _ _ _ e => by injection e with _ e1 e2; omega)
  have R0 := Lib.hid (show Rmy (.slice (some ⟨g, 0, none⟩) N c) from fun _ _ _ e => by injection e with _ e1 e2; omega)
  have s1 := win_till g 0 N c kk (by omega) (by omega)
  have H1 := Lib.hid (show Byt (EL.take kk) ∧ (EL.take kk).length ≤ 9000 ∧ okF (EL.take kk) = false from ⟨fun n hn => eb.out n (List.mem_of_mem_take hn), by rw [List.length_take]; omega, OC.out kk (by rw [en.out]; exact hkN)⟩)
  have H2 := Lib.hid (show Byt (EL ++ [0]) ∧ (EL ++ [0]).length ≤ 9000 ∧ okF (EL ++ [0]) = false from ⟨byt_app eb.out (fun n hn => by simp at hn; omega), by rw [List.length_append, en.out]; simp only [List.length_cons, List.length_nil]; omega, OM.out 0⟩)
  clear Q q hkk hk2 ht
  go_upto_region 6 with (first
    | ((with_reducible refine (D13.out _ _ _ S1.out R1.out H1).mono ?_); rintro e w3 ⟨⟨x1, rfl⟩, g3⟩; replace SQ := Lib.hid (SQ.out.kep g3); replace gg := kep_next gg g3; clear g3))
  clear s1
  have hne : EL ≠ [] := fun e => by have := en.out; rw [e] at this; simp at this; omega
  go_upto_region 7 with (first
    | (at_builtin; refine wpList_appAll bv 1 (fun _ => rfl) bv_one rfl _ _ 23 rfl 5 _ 1 Try.underlying23 info_u8 rfl (by decide) w3.heap.size _ _ _ ([] : List Int) EL rfl (World.ownsRow_made w3 #[] 0 (Nat.le_refl _) (Nat.zero_le _) (by simp)) rfl (SQ.out.kep (kep_more (Kep.refl _ _) _)) (by rw [en.out]; simp only [List.length_nil, Nat.zero_add]; unfold maxLen; omega) (by rw [en.out]; simp only [List.length_nil, Nat.zero_add]; omega) (by simp) ?_; intro x2 w4 o1 k1; have K4 : Hid (Kep w3.heap.size w3 w4) := Lib.hid ((kep_more (Kep.refl _ _) _).trans k1); have BF := Lib.hid (buf_own (bs := EL) (by rw [List.nil_append] at o1; exact o1) hne); clear o1 k1)
    | (at_builtin; refine wpList_appB (by rfl) _ _ 23 (by rfl) 5 Try.underlying23 info_u8 w3.heap.size _ _ _ EL [0] (by rfl) (BF.out.kep (kep_more (Kep.refl _ _) _)) (by rfl) (sq_new1 _ _ _) (by simp) (by rw [en.out]; simp only [List.length_cons, List.length_nil]; omega) (Nat.le_trans K4.out.size (by simp)) ?_; intro x3 w5 b2 a2; have K5 : Hid (Kep w3.heap.size w3 w5) := Lib.hid ((kep_next4 K4.out (kep_more (Kep.refl _ _) _)).trans (a2.kep (BF.out.kep (kep_more (Kep.refl _ _) _)))); have B2 := Lib.hid b2; clear b2 a2)
    | ((with_reducible refine (D13.out _ _ _ B2.out.sq B2.out.rmy H2).mono ?_); rintro e w6 ⟨⟨x4, rfl⟩, g6⟩; have K6 := Lib.hid (kep_next K5.out g6); clear g6))
  replace gg := kep_next gg K6.out
  replace SQ := Lib.hid (SQ.out.kep K6.out)
  clear K4 K5 K6 BF B2
  go_upto_region 8 with (first
    | (at_builtin; refine wpList_appAll bv 1 (fun _ => rfl) bv_one rfl _ _ 23 rfl 5 _ 1 Try.underlying23 info_u8 rfl (by decide) w6.heap.size _ _ _ ([] : List Int) EL rfl (World.ownsRow_made w6 #[] 0 (Nat.le_refl _) (Nat.zero_le _) (by simp)) rfl (SQ.out.kep (kep_more (Kep.refl _ _) _)) (by rw [en.out]; simp only [List.length_nil, Nat.zero_add]; unfold maxLen; omega) (by rw [en.out]; simp only [List.length_nil, Nat.zero_add]; omega) (by simp) ?_; intro x5 w7 o1 k1; have K7 : Hid (Kep w6.heap.size w6 w7) := Lib.hid ((kep_more (Kep.refl _ _) _).trans k1); have O1 := Lib.hid o1; clear o1 k1))
  have BF := buf_own (bs := EL) (by have := O1.out; rw [List.nil_append] at this; exact this) hne
  obtain ⟨gc, cc, e5, hb5, hl5, hm5, hc5, hf5, hg5⟩ := id BF
  rw [en.out] at e5 hl5
  subst e5
  have BS := Lib.hid (fun m => buf_set (m := m) (i := 4 + jj) BF (by rw [en.out]; omega))
  have q0 := hc5 (4 + jj) _ (gb_get (by rw [en.out]; omega))
  have f0 := (hf5 (4 + jj) (by omega)).2
  have bx := gb_byt eb.out (4 + jj)
  have H3 := Lib.hid (fun m (hm : 0 ≤ m ∧ m < 256) (hn : m ≠ gb EL (4 + jj)) => (show Byt (EL.set (4 + jj) m) ∧ (EL.set (4 + jj) m).length ≤ 9000 ∧ okF (EL.set (4 + jj) m) = false from ⟨byt_set eb.out hm, by rw [List.length_set, en.out]; omega, OT.out jj hj4 m hn⟩))
  have i4 : (4 : Int) + (jj : Int) < (N : Int) := by omega
  have i5 : (0 : Int) ≤ 4 + (jj : Int) := by omega
  have K8 := Lib.hid (fun u => K7.out.setCell (p := ⟨gc, 4 + jj, none⟩) hb5 u)
  clear O1 K7 BF hc5 hf5 hm5 hne OT OC OM eb H1 H2
  generalize gb EL (4 + jj) = x at *
  go_upto_region 9 with fail
  have BX := Lib.hid (BS.out ((x + 1) % 256))
  have KX := Lib.hid (K8.out (.int .u8 ((x + 1) % 256)))
  have H4 := Lib.hid (H3.out ((x + 1) % 256) (by omega) (by omega))
  generalize World.setCell w7 _ _ = W8 at *
  replace gg := kep_next gg KX.out
  replace SQ := Lib.hid (SQ.out.kep KX.out)
  clear BS K8 H3 q0 f0 KX S1 R1
  go_wp2_with (first
    | ((with_reducible refine (D13.out _ _ _ BX.out.sq BX.out.rmy H4).mono ?_); rintro e w8 ⟨⟨x6, rfl⟩, g8⟩; replace SQ := Lib.hid (SQ.out.kep g8); replace gg := kep_next gg g8; clear g8)
    | ((with_reducible refine (DE.out _ _ SQ.out R0.out).mono ?_); rintro e w9 ⟨⟨x7, rfl⟩, g9⟩; replace gg := kep_next gg g9; clear g9)
    | ((with_reducible refine (CC.out _ gg).mono ?_); rintro e w10 ⟨rfl, g10⟩; replace gg := kep_next gg g10; clear g10))
  go_ret
  exact ⟨rfl, gg⟩
/-- The law CodecCut. -/
theorem ecl_law (O : EOps) (AW : EAwake) (L : List Bd) (v0 : Value) (w : World) (h0 : Lst w v0 L) (t : Int) (ht : 0 ≤ t ∧ t < 65536) (HF : ∀ x ∈ L, Fits x) : Calls Try.prog 5 #[v0, .int .u16 t] w fun e w' => e = .returned (.bool true) ∧ Kep w.heap.size w w' := by
  by_cases c0 : 100 < L.length
  · exact ecl_l (Lib.hid AW) L v0 w h0 t c0
  · exact ecl_ok O (Lib.hid AW) L v0 w h0 t ht HF (by omega)
end Go.Proofs.Ytllkokfaodpfiaa
