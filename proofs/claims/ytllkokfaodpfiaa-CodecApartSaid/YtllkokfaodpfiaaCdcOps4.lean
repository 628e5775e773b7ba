/-
  Package codec: Decode.
-/
import Derived.Test.YtllkokfaodpfiaaCdcOps3
import Derived.Deep.DeepCutAuto
import Derived.Deep.QuietTactic
import Derived.BigQuiet
namespace Go.Proofs.Ytllkokfaodpfiaa
open Go.RowKit Go.Lib

theorem mk_bod (m : Nat) (h : m ≤ 9000) (W : World) : (Instr.makeSlice 22 (.int .i64 0) (.int .i64 (m : Int))).run Try.prog W = .ok (.slice (some ⟨W.heap.size, 0, none⟩) 0 m) (W.alloc (.cells (madeCells #[.int .u32 0, .int .i32 0, .int .i32 0, .int .i32 0, .int .i32 0, .int .i32 0, .int .i32 0, .int .i32 0, .int .i32 0, .int .i32 0] (m * 10)) 46)) := by
  obtain ⟨i0, hi, hz0, hz1, hz2⟩ := info_parts info_body
  have r := run_make (P := Try.prog) W 22 46 i0 _ Try.underlying22 hi hz0 .i64 .i64 0 (m : Int) (Int.le_refl _) (by omega) (by rw [hz2]; omega) (by omega)
  rw [hz1, Int.toNat_natCast] at r
  exact r
theorem own_bod (Y : World) (m : Nat) (h : m ≤ 9000) {B : Nat} (k : B ≤ Y.heap.size) : (Y.alloc (.cells (madeCells #[.int .u32 0, .int .i32 0, .int .i32 0, .int .i32 0, .int .i32 0, .int .i32 0, .int .i32 0, .int .i32 0, .int .i32 0, .int .i32 0] (m * 10)) 46)).ownsRow B 46 10 (.slice (some ⟨Y.heap.size, 0, none⟩) 0 m) 0 [] :=
  World.ownsRow_made Y _ m k (by unfold maxLen; omega) (size_madeCells _ _)
theorem wr_i64 {n : Int} (h : 0 ≤ n ∧ n < 9000) : IntKind.i64.wrap n = n := by rw [IntKind.wrap_i64]; omega
theorem wr_64 {n : Int} (h : 0 ≤ n ∧ n < 9000) : wrap64 n = n := by unfold wrap64; omega
theorem form_m {n m : Nat} {A : Int} (h : n - 8 = 40 * m) (hl : n ≤ 9000) (h8 : 8 ≤ n) (hA : A = (n : Int) - 8) : m ≤ 250 ∧ m ≤ 9000 ∧ (0 ≤ A ∧ A < 9000) ∧ Int.tdiv A 40 = (m : Int) ∧ wrap64 (m : Int) = (m : Int) ∧ IntKind.i64.wrap (m : Int) = (m : Int) := by
  have hA2 : 0 ≤ A ∧ A < 9000 := by omega
  refine ⟨by omega, by omega, hA2, ?_, wr_64 (by omega), wr_i64 (by omega)⟩
  rw [tdiv_pos hA2.1]
  omega
/-- The length of a slice. -/
def lenV : Value → Nat
  | .slice _ n _ => n
  | _ => 0
/-- What is behind the first bytes of a slice. -/
theorem rest_run {w : World} {base : Option Addr} {n c : Nat} {b : List Int} (h : Sq bv 1 w (.slice base n c) b) (hr : Rmy (.slice base n c)) (lo : Nat) (h0 : 0 < b.length) (hl : lo ≤ b.length) :
    ∃ base', (∀ W, (Instr.slice 23 (.slice base n c) (some (.int .i64 (lo : Int))) none none).run Try.prog W = .ok (.slice base' (n - lo) (c - lo)) W) ∧ Sq bv 1 w (.slice base' (n - lo) (c - lo)) (b.drop lo) ∧ Rmy (.slice base' (n - lo) (c - lo)) := by
  have hn : n = b.length := by
    obtain ⟨_, _, e, _⟩ := h
    injection e
  subst hn
  have hc := hr _ _ _ rfl
  obtain ⟨g, off, rfl, _⟩ := byt_at h (i := 0) h0
  have hm : Rmy (.slice (some ⟨g, off, none⟩) b.length c) := hr
  by_cases q : lo < c
  · refine ⟨_, fun W => win_from g off b.length c lo hl q W, from_sq h hl, fun b' n' c' e => ?_⟩
    injection e with _ e1 e2
    omega
  · have e1 : lo = b.length := by omega
    have e2 : c = b.length := by omega
    subst e1 e2
    refine ⟨some ⟨g, off, none⟩, fun W => ?_, ⟨_, _, by rw [List.drop_length, Nat.sub_self]; rfl, fun i x hx => by rw [List.drop_length] at hx; simp at hx⟩, fun b' n' c' e => ?_⟩
    · have e0 : (0 : Int) ≤ (b.length : Int) := Int.natCast_nonneg _
      simp [go_sem, e0, Try.underlying23]
    · injection e with _ e1 e2
      omega
/-- The numbers of a body, and the body. -/
theorem cbd {b : List Int} (hb : Byt b) (hl : 40 ≤ b.length) (v : Value) (w : World) (h : Sq bv 1 w v b) (hr : Rmy v) {n0 n1 n2 n3 n4 n5 n6 n7 n8 n9 : Int} (h0 : n0 = numA b 0) (h1 : n1 = numA b 4) (h2 : n2 = numA b 8) (h3 : n3 = numA b 12) (h4 : n4 = numA b 16) (h5 : n5 = numA b 20) (h6 : n6 = numA b 24) (h7 : n7 = numA b 28) (h8 : n8 = numA b 32) (h9 : n9 = numA b 36) : Calls Try.prog 23 #[v] w fun e w' => e = .returned (.agg #[.int .u32 n0, .int .u32 n1, .int .u32 n2, .int .u32 n3, .int .u32 n4, .int .u32 n5, .int .u32 n6, .int .u32 n7, .int .u32 n8, .int .u32 n9]) ∧ Kep w.heap.size w w' := by
  subst h0 h1 h2 h3 h4 h5 h6 h7 h8 h9
  exact cws hb hl v w h hr
theorem num_mem {b : List Int} (hb : Byt b) {n0 n1 n2 n3 n4 n5 n6 n7 n8 n9 : Int} (h0 : n0 = numA b 0) (h1 : n1 = numA b 4) (h2 : n2 = numA b 8) (h3 : n3 = numA b 12) (h4 : n4 = numA b 16) (h5 : n5 = numA b 20) (h6 : n6 = numA b 24) (h7 : n7 = numA b 28) (h8 : n8 = numA b 32) (h9 : n9 = numA b 36) : ∀ n ∈ [n0, n1, n2, n3, n4, n5, n6, n7, n8, n9], 0 ≤ n ∧ n < 4294967296 := fun n hn => by
  simp only [List.mem_cons, List.not_mem_nil, or_false] at hn
  rcases hn with rfl | rfl | rfl | rfl | rfl | rfl | rfl | rfl | rfl | rfl <;> first | (rw [h0]; exact numA_byt hb _) | (rw [h1]; exact numA_byt hb _) | (rw [h2]; exact numA_byt hb _) | (rw [h3]; exact numA_byt hb _) | (rw [h4]; exact numA_byt hb _) | (rw [h5]; exact numA_byt hb _) | (rw [h6]; exact numA_byt hb _) | (rw [h7]; exact numA_byt hb _) | (rw [h8]; exact numA_byt hb _) | (rw [h9]; exact numA_byt hb _)
set_option maxRecDepth 100000 in
set_option maxHeartbeats 8000000 in
theorem cde_ok {b : List Int} {v : Value} {w : World} (hq : Sq bv 1 w v b) (hr : Rmy v) (hb : Byt b) (hl : b.length ≤ 9000) (hf : okF b = true) : Calls Try.prog 11 #[v] w fun e w' => ∃ v', e = .returned (.tuple #[v', .int .i64 (vchkE (decV b))]) ∧ Lst w' v' (if vchkE (decV b) = 0 then decV b else []) ∧ Kep w.heap.size w w' := by
  have CF := Lib.hid (cwf hq hr hb hl)
  rw [hf] at CF
  obtain ⟨base, c, rfl⟩ := hq.shape
  have hc := hr _ _ _ rfl
  have hN := okF_len hf
  have h8 : 8 ≤ b.length := by
    unfold okF at hf
    rw [Bool.and_eq_true] at hf
    exact of_decide_eq_true hf.1
  obtain ⟨D, hD⟩ : ∃ D, D = decV b := ⟨_, rfl⟩
  have hDl : D.length = (b.length - 8) / 40 := by rw [hD, decV_len]
  have CK := Lib.hid (fun v w' h => vcheck_p v D w' h (by rw [hD]; exact fits_decV hb) (by omega))
  obtain ⟨base1, hs1, hq1, hr1⟩ := rest_run hq hr 8 (by omega) h8
  have s1 : ∀ W, (Instr.slice 23 (.slice base b.length c) (some (.int .i64 8)) none none).run Try.prog W = .ok (.slice base1 (b.length - 8) (c - 8)) W := hs1
  have HQ := Lib.hid (And.intro hq1 hr1)
  have HB := Lib.hid hb
  have HD := Lib.hid hD
  rw [← hD]
  obtain ⟨m, hm2⟩ : ∃ m, m = (b.length - 8) / 40 := ⟨_, rfl⟩
  have hbm : b.length - 8 = 40 * m := by omega
  rw [← hm2] at hDl
  rw [hbm] at s1 HQ
  obtain ⟨n, hn⟩ : ∃ n, n = b.length := ⟨_, rfl⟩
  obtain ⟨A, hA⟩ : ∃ A : Int, A = (n : Int) - 8 := ⟨_, rfl⟩
  rw [← hn] at CF s1 hbm h8 hl
  obtain ⟨hm9, hm8, hA2, e3, e4, e5⟩ := form_m hbm hl h8 hA
  have mk := fun W => mk_bod m hm8 W
  have e1 : IntKind.i64.wrap ((n : Int) - 8) = A := by rw [← hA]; exact wr_i64 hA2
  have e2 : wrap64 ((n : Int) - 8) = A := by rw [← hA]; exact wr_64 hA2
  have HBN := Lib.hid hn
  have HBM := Lib.hid hbm
  obtain ⟨R, hR⟩ : ∃ R, R = (if vchkE D = 0 then D else []) := ⟨_, rfl⟩
  rw [← hR]
  have HRE := Lib.hid hR
  obtain ⟨E, hE⟩ : ∃ E, E = vchkE D := ⟨_, rfl⟩
  rw [← hE] at CK HRE
  rw [← hE]
  rw [← hn]
  clear hq hr hb hN hD hm2 hf hc hs1 hq1 hr1 hn hA hbm hR hE h8
  go_enter Try.func11, Try.ntmps11
  go_upto_region 4 with ((with_reducible refine (CF.out).mono ?_); rintro e w1 ⟨rfl, g1⟩; have G1 := Lib.hid g1; clear g1)
  have O1 := Lib.hid (own_bod w1 m hm8 G1.out.size)
  clear e1 e2 e3 e4 e5 mk hA2
  go_wp2_with fail
  go_loopw [4, 5] (fun out rest wr => ∃ (k : Nat) (bs : Option Addr) (N c2 : Nat), k ≤ m ∧ rest = .slice bs N c2 ∧ Hid (N = 40 * (m - k)) ∧ Hid (Sq bv 1 w (.slice bs N c2) (b.drop (8 + 40 * k)) ∧ Rmy (.slice bs N c2)) ∧ Hid (wr.ownsRow w.heap.size 46 10 out (D.take k).length ((D.take k).flatMap vals) ∧ Kep w.heap.size w wr)) (fun _ rest _ => lenV rest)
  case atStart => exact ⟨0, base1, 40 * m, c - 8, by omega, rfl, Lib.hid rfl, HQ, Lib.hid ⟨O1.out, kep_more G1.out _⟩⟩
  case round =>
    obtain ⟨k, bs, N, c2, hk, rfl, HN, HQ2, HP⟩ := hrel
    clear O1 G1 s1 HQ CF
    have hN := HN.out
    by_cases hlt : k < m
    · have i1 : (0 : Int) < (N : Int) := by omega
      have hbl : (b.drop (8 + 40 * k)).length = N := by
        have := HBN.out
        have := HBM.out
        rw [List.length_drop]
        omega
      have hb2 := byt_drop HB.out (8 + 40 * k)
      obtain ⟨hq, hr⟩ := HQ2.out
      obtain ⟨bs', hs1, hq1, hr1⟩ := rest_run hq hr 40 (by omega) (by omega)
      have sx : ∀ W, (Instr.slice 23 (.slice bs N c2) (some (.int .i64 40)) none none).run Try.prog W = .ok (.slice bs' (N - 40) (c2 - 40)) W := hs1
      rw [List.drop_drop, show 8 + 40 * k + 40 = 8 + 40 * (k + 1) by omega] at hq1
      have HQ3 := Lib.hid (And.intro hq1 hr1)
      have HN3 := Lib.hid (show N - 40 = 40 * (m - (k + 1)) by omega)
      obtain ⟨n0, h0⟩ : ∃ x, x = numA (b.drop (8 + 40 * k)) 0 := ⟨_, rfl⟩
      obtain ⟨n1, h1⟩ : ∃ x, x = numA (b.drop (8 + 40 * k)) 4 := ⟨_, rfl⟩
      obtain ⟨n2, h2⟩ : ∃ x, x = numA (b.drop (8 + 40 * k)) 8 := ⟨_, rfl⟩
      obtain ⟨n3, h3⟩ : ∃ x, x = numA (b.drop (8 + 40 * k)) 12 := ⟨_, rfl⟩
      obtain ⟨n4, h4⟩ : ∃ x, x = numA (b.drop (8 + 40 * k)) 16 := ⟨_, rfl⟩
      obtain ⟨n5, h5⟩ : ∃ x, x = numA (b.drop (8 + 40 * k)) 20 := ⟨_, rfl⟩
      obtain ⟨n6, h6⟩ : ∃ x, x = numA (b.drop (8 + 40 * k)) 24 := ⟨_, rfl⟩
      obtain ⟨n7, h7⟩ : ∃ x, x = numA (b.drop (8 + 40 * k)) 28 := ⟨_, rfl⟩
      obtain ⟨n8, h8⟩ : ∃ x, x = numA (b.drop (8 + 40 * k)) 32 := ⟨_, rfl⟩
      obtain ⟨n9, h9⟩ : ∃ x, x = numA (b.drop (8 + 40 * k)) 36 := ⟨_, rfl⟩
      have CW : Hid (∀ W, Kep w.heap.size w W → Calls Try.prog 23 #[.slice bs N c2] W fun e w' => e = .returned (.agg #[.int .u32 n0, .int .u32 n1, .int .u32 n2, .int .u32 n3, .int .u32 n4, .int .u32 n5, .int .u32 n6, .int .u32 n7, .int .u32 n8, .int .u32 n9]) ∧ Kep W.heap.size W w') := Lib.hid fun W q => cbd hb2 (by omega) _ W (hq.kep q) hr h0 h1 h2 h3 h4 h5 h6 h7 h8 h9
      have CB := Lib.hid (fun W => cbo (num_mem hb2 h0 h1 h2 h3 h4 h5 h6 h7 h8 h9) W)
      have HY := Lib.hid (show D.take (k + 1) = D.take k ++ [⟨n0, sgn n1, sgn n2, sgn n3, sgn n4, sgn n5, sgn n6, sgn n7, sgn n8, sgn n9⟩] by
        have := HBN.out
        have := HBM.out
        rw [List.take_add_one, HD.out]
        unfold decV
        rw [List.getElem?_map, List.getElem?_range (by omega), h0, h1, h2, h3, h4, h5, h6, h7, h8, h9]
        simp only [num_drop, Nat.add_zero]
        rfl)
      have hdk : (D.take k).length ≤ 250 := by rw [List.length_take]; omega
      clear hN hs1 hq1 hr1 hq hr hb2 hbl h0 h1 h2 h3 h4 h5 h6 h7 h8 h9
      go_wp2_with (first
        | ((with_reducible refine (CW.out _ HP.out.2).mono ?_); rintro e U1 ⟨rfl, g1⟩; have HO1 := Lib.hid (And.intro (own_kep HP.out.1 g1 (Nat.le_refl _)) (kep_next HP.out.2 g1)); clear g1)
        | ((with_reducible refine (CB.out _).mono ?_); rintro e U2 ⟨rfl, g2⟩; have HO2 := Lib.hid (And.intro (own_kep HO1.out.1 g2 (Nat.le_refl _)) (kep_next HO1.out.2 g2)); clear g2)
        | (at_builtin; refine wpList_app vals 10 (fun _ => rfl) one_cell rfl _ _ 22 rfl 46 _ 40 Try.underlying22 info_body rfl (by decide) w.heap.size _ _ (D.take k) ⟨n0, sgn n1, sgn n2, sgn n3, sgn n4, sgn n5, sgn n6, sgn n7, sgn n8, sgn n9⟩ rfl HO2.out.1 _ (by first | rfl | simp) rfl _ rfl (by unfold maxLen; omega) (by omega) HO2.out.2.size ?_; intro v5 w5 o5 k5; have H5 := Lib.hid (And.intro o5 ((HO2.out.2).trans k5)); clear o5 k5))
      rw [← HY.out] at H5
      go_roundw
      case rel => exact ⟨k + 1, bs', N - 40, c2 - 40, by omega, rfl, HN3, HQ3, H5⟩
      case measure => simp [lenV]; omega
    · obtain rfl : k = m := by omega
      obtain rfl : N = 0 := by omega
      have HO := Lib.hid (show wr.ownsRow w.heap.size 46 10 _ D.length (flat D) ∧ Kep w.heap.size w wr by
        have := HP.out
        rw [List.take_of_length_le (Nat.le_of_eq hDl)] at this
        exact this)
      have HL := Lib.hid (own_lst HO.out.1)
      clear HP HN hN
      by_cases z : E = 0
      · have HZ : Hid (R = D) := Lib.hid (by rw [HRE.out, if_pos z])
        subst z
        go_wp2_with ((with_reducible refine (CK.out _ _ HL.out).mono ?_); rintro e w2 ⟨rfl, g2⟩; have G2 := Lib.hid g2; clear g2)
        go_ret2
        exact ⟨_, rfl, by rw [HZ.out]; exact HL.out.kep G2.out, kep_next HO.out.2 G2.out⟩
      · have HZ : Hid (R = []) := Lib.hid (by rw [HRE.out, if_neg z])
        have d0 : (E != 0) = true := by simp [z]
        clear z
        go_wp2_with ((with_reducible refine (CK.out _ _ HL.out).mono ?_); rintro e w2 ⟨rfl, g2⟩; have G2 := Lib.hid g2; clear g2)
        go_ret2
        exact ⟨_, rfl, by rw [HZ.out]; exact .inl ⟨rfl, _, _, rfl⟩, kep_next HO.out.2 G2.out⟩
set_option maxRecDepth 100000 in
set_option maxHeartbeats 4000000 in
theorem cde_no {b : List Int} {v : Value} {w : World} (hq : Sq bv 1 w v b) (hr : Rmy v) (hb : Byt b) (hl : b.length ≤ 9000) (hf : okF b = false) : Calls Try.prog 11 #[v] w fun e w' => e = .returned (.tuple #[.slice none 0 0, .int .i64 13]) ∧ Kep w.heap.size w w' := by
  have CF := Lib.hid (cwf hq hr hb hl)
  rw [hf] at CF
  clear hq hr
  go_enter Try.func11, Try.ntmps11
  go_wp2_with ((with_reducible refine (CF.out).mono ?_); rintro e w1 ⟨rfl, g1⟩; have G1 := Lib.hid g1; clear g1)
  go_ret2
  exact ⟨rfl, G1.out⟩
theorem cde : EDe Try.prog 11 := fun v b w hq hr hb hl => by
  by_cases hf : okF b = true
  · have e : decE b = vchkE (decV b) := by unfold decE; rw [if_pos hf]
    rw [e]
    exact cde_ok hq hr hb hl hf
  · have e : decE b = 13 := by unfold decE; rw [if_neg hf]
    rw [e, if_neg (by decide)]
    exact (cde_no hq hr hb hl (Bool.eq_false_iff.2 hf)).mono fun _ _ ⟨h1, h2⟩ => ⟨_, h1, .inl ⟨rfl, _, _, rfl⟩, h2⟩
end Go.Proofs.Ytllkokfaodpfiaa
