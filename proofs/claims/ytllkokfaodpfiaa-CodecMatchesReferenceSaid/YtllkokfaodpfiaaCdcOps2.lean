/-
  Package codec: wordsAt, wellFormed.
-/
import Derived.Test.YtllkokfaodpfiaaCdcOps1
import Derived.Test.YtllkokfaodpfiaaCdcRef3
import Derived.Deep.DeepCutAuto
import Derived.Deep.QuietTactic
import Derived.BigQuiet
namespace Go.Proofs.Ytllkokfaodpfiaa
open Go.RowKit Go.Lib

theorem win_from (g off n c lo : Nat) (h1 : lo ≤ n) (h2 : lo < c) (W : World) : (Instr.slice 23 (.slice (some ⟨g, off, none⟩) n c) (some (.int .i64 (lo : Int))) none none).run Try.prog W = .ok (.slice (some ⟨g, off + lo, none⟩) (n - lo) (c - lo)) W := by
  have e0 : (0 : Int) ≤ (lo : Int) := Int.natCast_nonneg _
  have e1 : (lo : Int) ≤ (n : Int) := by omega
  have e3 : ¬ c = lo := by omega
  simp [go_sem, e0, e1, e3, Try.underlying23]
theorem from_sq {w : World} {g off n c lo : Nat} {b : List Int} (h : Sq bv 1 w (.slice (some ⟨g, off, none⟩) n c) b) (hl : lo ≤ b.length) : Sq bv 1 w (.slice (some ⟨g, off + lo, none⟩) (n - lo) (c - lo)) (b.drop lo) := by
  have hn : n = b.length := by
    obtain ⟨_, _, e, _⟩ := h
    injection e
  have q := win_sq h (lo := lo) (k := n - lo) (by omega)
  rw [List.take_of_length_le (by rw [List.length_drop]; omega)] at q
  exact q
theorem gb_drop (b : List Int) (lo i : Nat) : gb (b.drop lo) i = gb b (lo + i) := by
  unfold gb
  rw [List.getD_eq_getElem?_getD, List.getD_eq_getElem?_getD, List.getElem?_drop]
theorem num_drop (b : List Int) (lo i : Nat) : numA (b.drop lo) i = numA b (lo + i) := by
  unfold numA
  rw [gb_drop, gb_drop, gb_drop, gb_drop]
  rfl
theorem byt_drop {b : List Int} (h : Byt b) (lo : Nat) : Byt (b.drop lo) := fun n hn => h n (List.mem_of_mem_drop hn)
/-- The numbers of a body in the course of the loop. -/
def mixV (b : List Int) (k : Nat) : List Value := (List.range 10).map fun j => .int .u32 (if j < k then numA b (4 * j) else 0)
theorem mix_put (b : List Int) {k : Nat} (hk : k < 10) : (mixV b k).set k (.int .u32 (numA b (4 * k))) = mixV b (k + 1) := by
  refine List.ext_getElem? fun j => ?_
  unfold mixV
  by_cases e : j = k
  · subst e
    rw [List.getElem?_set_self (by simpa using hk), List.getElem?_map, List.getElem?_range hk]
    simp
  · rw [List.getElem?_set_ne (fun q => e q.symm), List.getElem?_map, List.getElem?_map]
    by_cases hj : j < 10
    · rw [List.getElem?_range hj]
      have : (j < k + 1) = (j < k) := propext ⟨fun _ => by omega, fun _ => by omega⟩
      simp only [Option.map_some, this]
    · rw [List.getElem?_eq_none (by simpa using hj)]
      rfl
theorem mix_at {b : List Int} {k : Nat} (hk : k < 10) : (mixV b k)[k]? = some (.int .u32 0) := by
  unfold mixV
  rw [List.getElem?_map, List.getElem?_range hk]
  simp
set_option maxRecDepth 100000 in
set_option maxHeartbeats 4000000 in
theorem cws {b : List Int} (hb : Byt b) (hl : 40 ≤ b.length) (v : Value) (w : World) (h : Sq bv 1 w v b) (hr : Rmy v) : Calls Try.prog 23 #[v] w fun e w' => e = .returned (.agg (uA [numA b 0, numA b 4, numA b 8, numA b 12, numA b 16, numA b 20, numA b 24, numA b 28, numA b 32, numA b 36])) ∧ Kep w.heap.size w w' := by
  obtain ⟨base, c, rfl⟩ := h.shape
  have hc := hr _ _ _ rfl
  obtain ⟨g, off, rfl, _⟩ := byt_at h (i := 0) (by omega)
  have HQ := Lib.hid h
  have HB := Lib.hid hb
  have HL := Lib.hid hl
  generalize hn : b.length = n at *
  have HN := Lib.hid hn
  clear h hb hr hn
  go_enter Try.func23, Try.ntmps23
  go_upto_region 3 with fail
  go_loopw [5] (fun i wr => ∃ k : Nat, k ≤ 10 ∧ i = .int .i64 k ∧ Hid (ZC wr w.heap.size [.int .u32 0, .int .u32 0, .int .u32 0, .int .u32 0, .int .u32 0, .int .u32 0, .int .u32 0, .int .u32 0, .int .u32 0, .int .u32 0] ∧ ZC wr (w.heap.size + 1) (mixV b k) ∧ Kep w.heap.size w wr)) (fun i _ => 10 - (RowKit.intOf i).toNat)
  case atStart => exact ⟨0, by omega, rfl, Lib.hid ⟨(zc_new' _ _ _ rfl).more _, zc_new' _ _ _ (by simp), kep_more (kep_more (Kep.refl _ _) _) _⟩⟩
  case round =>
    obtain ⟨k, hk, rfl, HP⟩ := hrel
    by_cases hlt : k < 10
    · have i1 : (k : Int) < 10 := by omega
      have i0 : (0 : Int) ≤ (k : Int) := Int.natCast_nonneg _
      obtain ⟨A, hA⟩ : ∃ A : Int, A = (k : Int) * 4 := ⟨_, rfl⟩
      have e1 : IntKind.i64.wrap ((k : Int) * 4) = A := by rw [IntKind.wrap_i64]; omega
      have e2 : wrap64 ((k : Int) * 4) = A := by unfold wrap64; omega
      obtain ⟨X, hX⟩ : ∃ X, X = Value.slice (some ⟨g, off + 4 * k, none⟩) (n - 4 * k) (c - 4 * k) := ⟨_, rfl⟩
      have sx : ∀ W, (Instr.slice 23 (.slice (some ⟨g, off, none⟩) n c) (some (.int .i64 A)) none none).run Try.prog W = .ok X W := fun W => by
        have := win_from g off n c (4 * k) (by omega) (by omega) W
        rw [show ((4 * k : Nat) : Int) = A by omega, ← hX] at this
        exact this
      obtain ⟨N, hN⟩ : ∃ N : Int, N = numA b (4 * k) := ⟨_, rfl⟩
      have CA : Hid (∀ W, Kep w.heap.size w W → Calls Try.prog 30 #[X] W fun e w' => e = .returned (.int .u32 N) ∧ Kep W.heap.size W w') := Lib.hid fun W q => by
        have hn2 := HN.out
        have := cwa (byt_drop HB.out (4 * k)) (by rw [List.length_drop]; omega) _ W (from_sq (HQ.out.kep q) (lo := 4 * k) (by omega))
        rw [num_drop, Nat.add_zero, ← hN, ← hX] at this
        exact this
      have HM := Lib.hid (show (mixV b k).set k (.int .u32 N) = mixV b (k + 1) by rw [hN]; exact mix_put b hlt)
      have HZ := Lib.hid (mix_at (b := b) hlt)
      clear hX hN hA
      go_upto_region 6 with ((with_reducible refine (CA.out _ HP.out.2.2).mono ?_); rintro e U1 ⟨rfl, g1⟩; have Zr := HP.out.1.kep g1; have Zb := HP.out.2.1.kep g1; have gg := Lib.hid (kep_next HP.out.2.2 g1); have x0 := Zb.i HZ.out; have q0 := Zb.frz k; have hlt2 := Zb.lt; clear HP)
      generalize hU : World.setCell _ _ _ = U2
      have HR : Hid (ZC U2 w.heap.size [.int .u32 0, .int .u32 0, .int .u32 0, .int .u32 0, .int .u32 0, .int .u32 0, .int .u32 0, .int .u32 0, .int .u32 0, .int .u32 0] ∧ ZC U2 (w.heap.size + 1) (mixV b (k + 1)) ∧ Kep w.heap.size w U2) := Lib.hid (by
        rw [← hU, ← HM.out]
        exact ⟨Zr.far1 (by omega) _, Zb.put _ (by simp [mixV]; omega), kep_set gg.out (by simp) _⟩)
      clear hU Zr Zb gg x0 q0
      go_wp2_with fail
      go_roundw
      case rel => exact ⟨k + 1, by omega, by go_num, HR⟩
      case measure => simp [RowKit.intOf]; omega
    · obtain rfl : k = 10 := by omega
      have Zb := za_of (show ZC wr (w.heap.size + 1) [.int .u32 (numA b 0), .int .u32 (numA b 4), .int .u32 (numA b 8), .int .u32 (numA b 12), .int .u32 (numA b 16), .int .u32 (numA b 20), .int .u32 (numA b 24), .int .u32 (numA b 28), .int .u32 (numA b 32), .int .u32 (numA b 36)] from HP.out.2.1)
      have Zr := HP.out.1
      have gg := HP.out.2.2
      obtain ⟨n0, h0⟩ : ∃ m, m = numA b 0 := ⟨_, rfl⟩
      obtain ⟨n1, h1⟩ : ∃ m, m = numA b 4 := ⟨_, rfl⟩
      obtain ⟨n2, h2⟩ : ∃ m, m = numA b 8 := ⟨_, rfl⟩
      obtain ⟨n3, h3⟩ : ∃ m, m = numA b 12 := ⟨_, rfl⟩
      obtain ⟨n4, h4⟩ : ∃ m, m = numA b 16 := ⟨_, rfl⟩
      obtain ⟨n5, h5⟩ : ∃ m, m = numA b 20 := ⟨_, rfl⟩
      obtain ⟨n6, h6⟩ : ∃ m, m = numA b 24 := ⟨_, rfl⟩
      obtain ⟨n7, h7⟩ : ∃ m, m = numA b 28 := ⟨_, rfl⟩
      obtain ⟨n8, h8⟩ : ∃ m, m = numA b 32 := ⟨_, rfl⟩
      obtain ⟨n9, h9⟩ : ∃ m, m = numA b 36 := ⟨_, rfl⟩
      rw [← h0, ← h1, ← h2, ← h3, ← h4, ← h5, ← h6, ← h7, ← h8, ← h9] at Zb
      have HE := Lib.hid (show [n0, n1, n2, n3, n4, n5, n6, n7, n8, n9] = [numA b 0, numA b 4, numA b 8, numA b 12, numA b 16, numA b 20, numA b 24, numA b 28, numA b 32, numA b 36] by rw [h0, h1, h2, h3, h4, h5, h6, h7, h8, h9])
      have hst := Zr.set [.int .u32 n0, .int .u32 n1, .int .u32 n2, .int .u32 n3, .int .u32 n4, .int .u32 n5, .int .u32 n6, .int .u32 n7, .int .u32 n8, .int .u32 n9] (by simp)
      simp only [setAll, Nat.zero_add, Nat.reduceAdd] at hst
      have gk := kep_setAll (b := w.heap.size) (by omega) [.int .u32 n0, .int .u32 n1, .int .u32 n2, .int .u32 n3, .int .u32 n4, .int .u32 n5, .int .u32 n6, .int .u32 n7, .int .u32 n8, .int .u32 n9] 0 gg
      simp only [setAll, Nat.zero_add, Nat.reduceAdd] at gk
      clear h0 h1 h2 h3 h4 h5 h6 h7 h8 h9
      have x0 := Zr.i (i := 0) rfl
      have q0 := Zr.frz 0
      have y0 := hst.i (i := 0) rfl
      have x1 := Zr.i (i := 1) rfl
      have q1 := Zr.frz 1
      have y1 := hst.i (i := 1) rfl
      have x2 := Zr.i (i := 2) rfl
      have q2 := Zr.frz 2
      have y2 := hst.i (i := 2) rfl
      have x3 := Zr.i (i := 3) rfl
      have q3 := Zr.frz 3
      have y3 := hst.i (i := 3) rfl
      have x4 := Zr.i (i := 4) rfl
      have q4 := Zr.frz 4
      have y4 := hst.i (i := 4) rfl
      have x5 := Zr.i (i := 5) rfl
      have q5 := Zr.frz 5
      have y5 := hst.i (i := 5) rfl
      have x6 := Zr.i (i := 6) rfl
      have q6 := Zr.frz 6
      have y6 := hst.i (i := 6) rfl
      have x7 := Zr.i (i := 7) rfl
      have q7 := Zr.frz 7
      have y7 := hst.i (i := 7) rfl
      have x8 := Zr.i (i := 8) rfl
      have q8 := Zr.frz 8
      have y8 := hst.i (i := 8) rfl
      have x9 := Zr.i (i := 9) rfl
      have q9 := Zr.frz 9
      have y9 := hst.i (i := 9) rfl
      have HK := Lib.hid gk
      clear HP gk hst Zr gg
      go_wp2_with fail
      exact bodyPost_ret (v := .agg #[.int .u32 n0, .int .u32 n1, .int .u32 n2, .int .u32 n3, .int .u32 n4, .int .u32 n5, .int .u32 n6, .int .u32 n7, .int .u32 n8, .int .u32 n9]) (by simp [results, Try.results23, go_sem, y0, y1, y2, y3, y4, y5, y6, y7, y8, y9]) rfl ⟨by rw [← HE.out]; rfl, HK.out⟩
set_option maxRecDepth 100000 in
set_option maxHeartbeats 4000000 in
theorem cwf_short {b : List Int} {v : Value} {w : World} (hq : Sq bv 1 w v b) (hr : Rmy v) (h8 : b.length < 8) : Calls Try.prog 21 #[v] w fun e w' => e = .returned (.bool false) ∧ Kep w.heap.size w w' := by
  obtain ⟨base, c, rfl⟩ := hq.shape
  have hc := hr _ _ _ rfl
  have i8 : (b.length : Int) < 8 := by omega
  clear hq hr
  generalize b.length = n at *
  go_enter Try.func21, Try.ntmps21
  go_wp2_with fail
  go_ret
  exact ⟨rfl, Kep.refl _ _⟩
set_option maxRecDepth 100000 in
set_option maxHeartbeats 4000000 in
theorem cwf_magic {b : List Int} {v : Value} {w : World} (hq : Sq bv 1 w v b) (hr : Rmy v) (hb : Byt b) (h8 : 8 ≤ b.length) (hm : b.take 4 ≠ magic) : Calls Try.prog 21 #[v] w fun e w' => e = .returned (.bool false) ∧ Kep w.heap.size w w' := by
  obtain ⟨base, c, rfl⟩ := hq.shape
  have hc := hr _ _ _ rfl
  obtain ⟨g, off, rfl, _⟩ := byt_at hq (i := 0) (by omega)
  have i8 : ¬ (b.length : Int) < 8 := by omega
  have s1 : ∀ W, (Instr.slice 23 (.slice (some ⟨g, off, none⟩) b.length c) none (some (.int .i64 4)) none).run Try.prog W = .ok (.slice (some ⟨g, off, none⟩) 4 c) W := fun W => win_till g off b.length c 4 (by omega) (by omega) W
  have s2 := conv_str hq (by omega)
  have s3 : ¬ (strOfNums (b.take 4)).toList = [66, 73, 76, 49] := neq_t (fun h => hm ((str_of (fun n hn => hb n (List.mem_of_mem_take hn))).1 h))
  have s5 : ((strOfNums (b.take 4)).toList == [66, 73, 76, 49]) = false := beq_eq_false_iff_ne.2 s3
  clear hq hr hb hm
  generalize strOfNums (b.take 4) = st at *
  generalize b.length = n at *
  go_enter Try.func21, Try.ntmps21
  go_wp2_with fail
  go_ret
  exact ⟨rfl, Kep.refl _ _⟩
set_option maxRecDepth 100000 in
set_option maxHeartbeats 4000000 in
theorem cwf_len {b : List Int} {v : Value} {w : World} (hq : Sq bv 1 w v b) (hr : Rmy v) (hb : Byt b) (hl : b.length ≤ 9000) (h8 : 8 ≤ b.length) (hm : b.take 4 = magic) : Calls Try.prog 21 #[v] w fun e w' => e = .returned (.bool (decide ((b.length : Int) = 8 + 40 * numA b 4))) ∧ Kep w.heap.size w w' := by
  obtain ⟨base, c, rfl⟩ := hq.shape
  have hc := hr _ _ _ rfl
  obtain ⟨g, off, rfl, _⟩ := byt_at hq (i := 0) (by omega)
  have i8 : ¬ (b.length : Int) < 8 := by omega
  have s1 : ∀ W, (Instr.slice 23 (.slice (some ⟨g, off, none⟩) b.length c) none (some (.int .i64 4)) none).run Try.prog W = .ok (.slice (some ⟨g, off, none⟩) 4 c) W := fun W => win_till g off b.length c 4 (by omega) (by omega) W
  have s2 := conv_str hq (by omega)
  have s3 : strOfNums (b.take 4) = ⟨#[66, 73, 76, 49]⟩ := (str_of (fun n hn => hb n (List.mem_of_mem_take hn))).2 hm
  have s4 := neq_f
  rw [s3] at s2
  have hN := numA_byt hb 4
  obtain ⟨N, hN2⟩ : ∃ N, N = numA b 4 := ⟨_, rfl⟩
  have C1 : Hid (Calls Try.prog 30 #[.slice (some ⟨g, off + 4, none⟩) (b.length - 4) (c - 4)] w fun e w' => e = .returned (.int .u32 N) ∧ Kep w.heap.size w w') := Lib.hid (by
    have := cwa (byt_drop hb 4) (by rw [List.length_drop]; omega) _ w (from_sq hq (lo := 4) (by omega))
    rw [num_drop, Nat.add_zero, ← hN2] at this
    exact this)
  obtain ⟨X, hX⟩ : ∃ X, X = Value.slice (some ⟨g, off + 4, none⟩) (b.length - 4) (c - 4) := ⟨_, rfl⟩
  have sx : ∀ W, (Instr.slice 23 (.slice (some ⟨g, off, none⟩) b.length c) (some (.int .i64 4)) none none).run Try.prog W = .ok X W := fun W => by
    have := win_from g off b.length c 4 (by omega) (by omega) W
    rw [← hX] at this
    exact this
  rw [← hX] at C1
  have e1 : IntKind.i64.wrap ((b.length : Int) - 8) = (b.length : Int) - 8 := by rw [IntKind.wrap_i64]; omega
  have e2 : wrap64 ((b.length : Int) - 8) = (b.length : Int) - 8 := by unfold wrap64; omega
  have e3 : IntKind.u64.wrap ((b.length : Int) - 8) = (b.length : Int) - 8 := by rw [IntKind.wrap_u64]; omega
  have e4 : IntKind.u64.wrap (N * 40) = N * 40 := by rw [IntKind.wrap_u64]; omega
  have e5 : IntKind.u64.wrap N = N := by rw [IntKind.wrap_u64]; omega
  have HE := Lib.hid hN2
  have HT := Lib.hid (show ((b.length : Int) - 8 == N * 40) = decide ((b.length : Int) = 8 + 40 * numA b 4) by
    rw [← hN2]
    by_cases q : (b.length : Int) = 8 + 40 * N
    · rw [decide_eq_true q, beq_iff_eq]
      omega
    · rw [decide_eq_false q, beq_eq_false_iff_ne]
      omega)
  clear hq hr hb hm hN hN2 s3 hX
  generalize b.length = n at *
  go_enter Try.func21, Try.ntmps21
  go_wp2_with ((with_reducible refine (C1.out).mono ?_); rintro e w1 ⟨rfl, g1⟩; have G1 := Lib.hid g1; clear g1)
  go_ret
  refine ⟨?_, G1.out⟩
  rw [← HT.out]
  rfl
theorem cwf {b : List Int} {v : Value} {w : World} (hq : Sq bv 1 w v b) (hr : Rmy v) (hb : Byt b) (hl : b.length ≤ 9000) : Calls Try.prog 21 #[v] w fun e w' => e = .returned (.bool (okF b)) ∧ Kep w.heap.size w w' := by
  unfold okF
  by_cases h8 : b.length < 8
  · rw [decide_eq_false (show ¬ 8 ≤ b.length by omega), Bool.false_and]
    exact cwf_short hq hr h8
  · rw [decide_eq_true (show 8 ≤ b.length by omega), Bool.true_and]
    by_cases hm : b.take 4 = magic
    · rw [decide_eq_true hm, Bool.true_and]
      exact cwf_len hq hr hb hl (by omega) hm
    · rw [decide_eq_false hm, Bool.false_and]
      exact cwf_magic hq hr hb (by omega) hm
end Go.Proofs.Ytllkokfaodpfiaa
