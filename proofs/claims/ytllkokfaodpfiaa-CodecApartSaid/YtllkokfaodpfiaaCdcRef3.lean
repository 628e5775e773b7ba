/-
  Package codec: the reference's Encode and Decode.
-/
import Derived.Test.YtllkokfaodpfiaaCdcRef2
import Derived.Deep.DeepCutAuto
import Derived.Laws.BytesArg
import Derived.Laws.Strings
import Derived.Deep.QuietTactic
import Derived.BigQuiet
namespace Go.Proofs.Ytllkokfaodpfiaa
open Go.RowKit Go.Lib

set_option maxRecDepth 100000 in
set_option maxHeartbeats 2000000 in
theorem ren : EEn Try.prog 10 := fun v L w hv hf hl => by
  have C1 := Lib.hid (vcheck_any v L w hv (by omega))
  have C2 := Lib.hid (fun w' (k : Kep w.heap.size w w') => rby v L w' (hv.kep k) hf hl)
  obtain ⟨base, cap, rfl⟩ := hv.shape
  by_cases z : vchkE L = 0
  · have HE : Hid (vchkE L = 0) := Lib.hid z
    rw [z] at C1
    clear hv hf z
    go_enter Try.func10, Try.ntmps10
    go_wp2_with (first
      | ((with_reducible refine (C1.out).mono ?_); rintro e w1 ⟨rfl, g1⟩; have G1 := Lib.hid g1; clear g1)
      | ((with_reducible refine (C2.out _ G1.out).mono ?_); rintro e w2 ⟨v2, rfl, b2, g2⟩; have B2 := Lib.hid b2; have G2 := Lib.hid g2; clear b2 g2))
    go_ret2
    rw [HE.out]
    exact ⟨_, rfl, Lib.hid ⟨fun _ => B2.out.lo G1.out.size, fun h => absurd rfl h⟩, kep_next G1.out G2.out⟩
  · have HE : Hid (¬ vchkE L = 0) := Lib.hid z
    have d0 : (vchkE L != 0) = true := by simp [z]
    clear hv hf C2 z
    generalize vchkE L = c at *
    go_enter Try.func10, Try.ntmps10
    go_wp2_with ((with_reducible refine (C1.out).mono ?_); rintro e w1 ⟨rfl, g1⟩; have G1 := Lib.hid g1; clear g1)
    go_ret2
    exact ⟨_, rfl, Lib.hid ⟨fun h => absurd h HE.out, fun _ => rfl⟩, G1.out⟩
/-- A window of a slice of bytes. -/
theorem win_run (g off n c lo hi : Nat) (h1 : lo ≤ hi) (h2 : hi ≤ c) (h3 : lo < c) (W : World) : (Instr.slice 23 (.slice (some ⟨g, off, none⟩) n c) (some (.int .i64 (lo : Int))) (some (.int .i64 (hi : Int))) none).run Try.prog W = .ok (.slice (some ⟨g, off + lo, none⟩) (hi - lo) (c - lo)) W := by
  have e0 : (0 : Int) ≤ (lo : Int) := Int.natCast_nonneg _
  have e1 : (lo : Int) ≤ (hi : Int) := by omega
  have e2 : (hi : Int) ≤ (c : Int) := by omega
  have e3 : ¬ c = lo := by omega
  simp [go_sem, e0, e1, e2, e3, Try.underlying23]
theorem win_till (g off n c hi : Nat) (h2 : hi ≤ c) (h3 : 0 < c) (W : World) : (Instr.slice 23 (.slice (some ⟨g, off, none⟩) n c) none (some (.int .i64 (hi : Int))) none).run Try.prog W = .ok (.slice (some ⟨g, off, none⟩) hi c) W := by
  have e2 : (hi : Int) ≤ (c : Int) := by omega
  have e1 : (0 : Int) ≤ (hi : Int) := Int.natCast_nonneg _
  have e3 : ¬ c = 0 := by omega
  simp [go_sem, e1, e2, e3, Try.underlying23]
theorem win_sq {w : World} {g off n c lo k : Nat} {b : List Int} (h : Sq bv 1 w (.slice (some ⟨g, off, none⟩) n c) b) (hk : lo + k ≤ b.length) : Sq bv 1 w (.slice (some ⟨g, off + lo, none⟩) k (c - lo)) ((b.drop lo).take k) := by
  obtain ⟨_, _, e, hq⟩ := h
  injection e with e1 e2 e3
  subst e1
  refine ⟨_, _, by rw [List.length_take, List.length_drop, Nat.min_eq_left (by omega)], fun i x hx => ?_⟩
  have hi : i < k := by have := (List.getElem?_eq_some_iff.1 hx).1; rw [List.length_take] at this; omega
  rw [List.getElem?_take_of_lt hi, List.getElem?_drop] at hx
  obtain ⟨g2, o2, e4, q⟩ := hq _ x hx
  injection e4 with e4
  injection e4 with e5 e6
  subst e5 e6
  refine ⟨_, _, rfl, fun j u hu => ?_⟩
  rw [← q j u hu]
  congr 2
  omega
theorem num_win {b : List Int} {lo k j : Nat} (hj : j + 4 ≤ k) : numA ((b.drop lo).take k) j = numA b (lo + j) := by
  have q : ∀ i, i < k → gb ((b.drop lo).take k) i = gb b (lo + i) := fun i hi => by
    unfold gb
    rw [List.getD_eq_getElem?_getD, List.getD_eq_getElem?_getD, List.getElem?_take_of_lt hi, List.getElem?_drop]
  unfold numA
  rw [q _ (by omega), q _ (by omega), q _ (by omega), q _ (by omega)]
  rfl
theorem byt_win {b : List Int} (h : Byt b) (lo k : Nat) : Byt ((b.drop lo).take k) := fun n hn => h n (List.mem_of_mem_drop (List.mem_of_mem_take hn))
/-- The first letters, compared as strings. -/
theorem u8_inj {m n : Int} (hm : 0 ≤ m ∧ m < 256) (hn : 0 ≤ n ∧ n < 256) (h : UInt8.ofNat m.toNat = UInt8.ofNat n.toNat) : m = n := by
  have := congrArg UInt8.toNat h
  simp at this
  omega
theorem str_inj : ∀ {a b : List Int}, Byt a → Byt b → a.map (fun n => UInt8.ofNat n.toNat) = b.map (fun n => UInt8.ofNat n.toNat) → a = b
  | [], [], _, _, _ => rfl
  | [], _ :: _, _, _, h => by simp at h
  | _ :: _, [], _, _, h => by simp at h
  | x :: a, y :: b, ha, hb, h => by
    simp only [List.map_cons, List.cons.injEq] at h
    rw [u8_inj (ha x (by simp)) (hb y (by simp)) h.1, str_inj (fun n hn => ha n (by simp [hn])) (fun n hn => hb n (by simp [hn])) h.2]
theorem str_of {a : List Int} (ha : Byt a) : (strOfNums a = ⟨#[66, 73, 76, 49]⟩) ↔ a = magic := by
  constructor
  · intro h
    have e : (⟨#[66, 73, 76, 49]⟩ : ByteArray) = strOfNums magic := by decide
    rw [e] at h
    have := congrArg (fun s : ByteArray => s.data.toList) h
    simp only [strOfNums_data] at this
    exact str_inj ha (fun n hn => by simp [magic] at hn; omega) this
  · rintro rfl
    decide
theorem num_at {w W : World} {g off n c lo o k : Nat} {b : List Int} (hb : Byt b) (h : Sq bv 1 w (.slice (some ⟨g, off, none⟩) n c) b) (q : Kep w.heap.size w W) (hl : lo + 4 ≤ b.length) (ho : o = off + lo) (hk : k = c - lo) : Calls Try.prog 24 #[.slice (some ⟨g, o, none⟩) 4 k] W fun e w' => e = .returned (.int .i64 (numA b lo)) ∧ Kep W.heap.size W w' := by
  subst ho hk
  have := rnu (byt_win hb lo 4) (by rw [List.length_take, List.length_drop]; omega) _ W (win_sq (h.kep q) (lo := lo) (k := 4) hl)
  rw [num_win (by omega)] at this
  exact this
theorem sgn_at {w W : World} {g off n c lo o k : Nat} {b : List Int} (hb : Byt b) (h : Sq bv 1 w (.slice (some ⟨g, off, none⟩) n c) b) (q : Kep w.heap.size w W) (hl : lo + 4 ≤ b.length) (ho : o = off + lo) (hk : k = c - lo) : Calls Try.prog 25 #[.slice (some ⟨g, o, none⟩) 4 k] W fun e w' => e = .returned (.int .i32 (sgn (numA b lo))) ∧ Kep W.heap.size W w' := by
  subst ho hk
  have := rsg (byt_win hb lo 4) (by rw [List.length_take, List.length_drop]; omega) _ W (win_sq (h.kep q) (lo := lo) (k := 4) hl)
  rw [num_win (by omega)] at this
  exact this
theorem conv_str {w : World} {g off n c : Nat} {b : List Int} (h : Sq bv 1 w (.slice (some ⟨g, off, none⟩) n c) b) (hk : 4 ≤ b.length) : (convert 23 9 (.slice (some ⟨g, off, none⟩) 4 c)).run Try.prog w = .ok (.string (strOfNums (b.take 4))) w := by
  refine run_convert_bytes_arg w 23 5 Try.underlying23 Try.underlying5 g off 4 c (b.take 4) (by rw [List.length_take]; omega) (fun i hi => ?_) 9 Try.underlying9
  obtain ⟨_, _, e, hq⟩ := h
  injection e with e1 e2
  subst e1
  have hb : i < b.length := by omega
  obtain ⟨g2, o2, e4, q⟩ := hq i _ (List.getElem?_eq_getElem hb)
  injection e4 with e4
  injection e4 with e5 e6
  subst e5 e6
  have := q 0 _ rfl
  rw [Nat.mul_one, Nat.add_zero] at this
  rw [this, List.getD_eq_getElem?_getD, List.getElem?_take_of_lt hi, List.getElem?_eq_getElem hb]
  rfl
theorem neq_t {s : ByteArray} (h : s ≠ ⟨#[66, 73, 76, 49]⟩) : ¬ s.toList = [66, 73, 76, 49] := fun e => by
  rw [ByteArray.toList_eq] at e
  have q := Array.ext' (xs := s.data) (ys := #[66, 73, 76, 49]) e
  obtain ⟨d⟩ := s
  exact h (congrArg ByteArray.mk q)
theorem neq_f (W : World) : (binOp .neq 9 (.string ⟨#[66, 73, 76, 49]⟩) (.string ⟨#[66, 73, 76, 49]⟩)).run Try.prog W = .ok (.bool false) W := by
  simp [go_sem]
set_option maxRecDepth 100000 in
set_option maxHeartbeats 4000000 in
theorem rde_short {b : List Int} {v : Value} {w : World} (hq : Sq bv 1 w v b) (hr : Rmy v) (_hb : Byt b) (hl : b.length ≤ 9000) (h8 : b.length < 8) : Calls Try.prog 12 #[v] w fun e w' => e = .returned (.tuple #[.slice none 0 0, .int .i64 13]) ∧ Kep w.heap.size w w' := by
  obtain ⟨base, c, rfl⟩ := hq.shape
  have hc := hr _ _ _ rfl
  have i8 : (b.length : Int) < 8 := by omega
  clear hq hr
  generalize b.length = n at *
  go_enter Try.func12, Try.ntmps12
  go_wp2_with fail
  go_ret2
  exact ⟨rfl, Kep.refl _ _⟩
set_option maxRecDepth 100000 in
set_option maxHeartbeats 4000000 in
theorem rde_magic {b : List Int} {v : Value} {w : World} (hq : Sq bv 1 w v b) (hr : Rmy v) (hb : Byt b) (hl : b.length ≤ 9000) (h8 : 8 ≤ b.length) (hm : b.take 4 ≠ magic) : Calls Try.prog 12 #[v] w fun e w' => e = .returned (.tuple #[.slice none 0 0, .int .i64 13]) ∧ Kep w.heap.size w w' := by
  obtain ⟨base, c, rfl⟩ := hq.shape
  have hc := hr _ _ _ rfl
  obtain ⟨g, off, rfl, _⟩ := byt_at hq (i := 0) (by omega)
  have i8 : ¬ (b.length : Int) < 8 := by omega
  have s1 : ∀ W, (Instr.slice 23 (.slice (some ⟨g, off, none⟩) b.length c) none (some (.int .i64 4)) none).run Try.prog W = .ok (.slice (some ⟨g, off, none⟩) 4 c) W := fun W => win_till g off b.length c 4 (by omega) (by omega) W
  have s2 := conv_str hq (by omega)
  have s3 : ¬ (strOfNums (b.take 4)).toList = [66, 73, 76, 49] := neq_t (fun h => hm ((str_of (fun n hn => hb n (List.mem_of_mem_take hn))).1 h))
  clear hq hr hb hm
  generalize strOfNums (b.take 4) = st at *
  generalize b.length = n at *
  go_enter Try.func12, Try.ntmps12
  go_wp2_with fail
  go_ret2
  exact ⟨rfl, Kep.refl _ _⟩
set_option maxRecDepth 100000 in
set_option maxHeartbeats 4000000 in
theorem rde_len {b : List Int} {v : Value} {w : World} (hq : Sq bv 1 w v b) (hr : Rmy v) (hb : Byt b) (hl : b.length ≤ 9000) (h8 : 8 ≤ b.length) (hm : b.take 4 = magic) (hn : (b.length : Int) ≠ 8 + 40 * numA b 4) : Calls Try.prog 12 #[v] w fun e w' => e = .returned (.tuple #[.slice none 0 0, .int .i64 13]) ∧ Kep w.heap.size w w' := by
  obtain ⟨base, c, rfl⟩ := hq.shape
  have hc := hr _ _ _ rfl
  obtain ⟨g, off, rfl, _⟩ := byt_at hq (i := 0) (by omega)
  have i8 : ¬ (b.length : Int) < 8 := by omega
  have s1 : ∀ W, (Instr.slice 23 (.slice (some ⟨g, off, none⟩) b.length c) none (some (.int .i64 4)) none).run Try.prog W = .ok (.slice (some ⟨g, off, none⟩) 4 c) W := fun W => win_till g off b.length c 4 (by omega) (by omega) W
  have s2 := conv_str hq (by omega)
  have s3 : strOfNums (b.take 4) = ⟨#[66, 73, 76, 49]⟩ := (str_of (fun n hn => hb n (List.mem_of_mem_take hn))).2 hm
  have s4 := neq_f
  rw [s3] at s2
  have hN := numA_byt hb 4
  have C1 : Hid (∀ W, Kep w.heap.size w W → Calls Try.prog 24 #[.slice (some ⟨g, off + 4, none⟩) 4 (c - 4)] W fun e w' => e = .returned (.int .i64 (numA b 4)) ∧ Kep W.heap.size W w') := Lib.hid fun W k => by
    have := rnu (byt_win hb 4 4) (by rw [List.length_take, List.length_drop]; omega) _ W (win_sq (hq.kep k) (lo := 4) (k := 4) (by omega))
    rw [num_win (by omega)] at this
    exact this
  have d1 : ((b.length : Int) != 8 + 40 * numA b 4) = true := by simp [hn]
  clear hq hr hb hm hn s3
  generalize numA b 4 = N at *
  generalize b.length = n at *
  go_enter Try.func12, Try.ntmps12
  go_wp2_with ((with_reducible refine (C1.out _ (Kep.refl _ _)).mono ?_); rintro e w1 ⟨rfl, g1⟩; have G1 := Lib.hid g1; clear g1)
  go_ret2
  exact ⟨rfl, G1.out⟩
set_option maxRecDepth 100000 in
set_option maxHeartbeats 8000000 in
theorem rde_ok {b : List Int} {v : Value} {w : World} (hq : Sq bv 1 w v b) (hr : Rmy v) (hb : Byt b) (hl : b.length ≤ 9000) (hf : okF b = true) : Calls Try.prog 12 #[v] w fun e w' => ∃ v', e = .returned (.tuple #[v', .int .i64 (vchkE (decV b))]) ∧ Lst w' v' (if vchkE (decV b) = 0 then decV b else []) ∧ Kep w.heap.size w w' := by
  obtain ⟨base, c, rfl⟩ := hq.shape
  have hc := hr _ _ _ rfl
  have hn := okF_len hf
  have h8 : 8 ≤ b.length ∧ b.take 4 = magic := by
    unfold okF at hf
    rw [Bool.and_eq_true, Bool.and_eq_true] at hf
    exact ⟨of_decide_eq_true hf.1, of_decide_eq_true hf.2.1⟩
  obtain ⟨h8, hm⟩ := h8
  obtain ⟨g, off, rfl, _⟩ := byt_at hq (i := 0) (by omega)
  have i8 : ¬ (b.length : Int) < 8 := by omega
  have s1 : ∀ W, (Instr.slice 23 (.slice (some ⟨g, off, none⟩) b.length c) none (some (.int .i64 4)) none).run Try.prog W = .ok (.slice (some ⟨g, off, none⟩) 4 c) W := fun W => win_till g off b.length c 4 (by omega) (by omega) W
  have s2 := conv_str hq (by omega)
  have s3 : strOfNums (b.take 4) = ⟨#[66, 73, 76, 49]⟩ := (str_of (fun n hn => hb n (List.mem_of_mem_take hn))).2 hm
  have s4 := neq_f
  rw [s3] at s2
  have hN := numA_byt hb 4
  have C1 : Hid (∀ W, Kep w.heap.size w W → Calls Try.prog 24 #[.slice (some ⟨g, off + 4, none⟩) 4 (c - 4)] W fun e w' => e = .returned (.int .i64 (numA b 4)) ∧ Kep W.heap.size W w') := Lib.hid fun W k => by
    have := rnu (byt_win hb 4 4) (by rw [List.length_take, List.length_drop]; omega) _ W (win_sq (hq.kep k) (lo := 4) (k := 4) (by omega))
    rw [num_win (by omega)] at this
    exact this
  have d1 : ((b.length : Int) != 8 + 40 * numA b 4) = false := by simp [hn]
  obtain ⟨D, hD⟩ : ∃ D, D = decV b := ⟨_, rfl⟩
  have hDl : D.length = (b.length - 8) / 40 := by rw [hD, decV_len]
  have CK := Lib.hid (fun v w' h => vcheck_any v D w' h (by omega))
  have HQ := Lib.hid hq
  have HB := Lib.hid hb
  have HD := Lib.hid hD
  rw [← hD]
  obtain ⟨m, hm2⟩ : ∃ m, m = (b.length - 8) / 40 := ⟨_, rfl⟩
  have hbm : b.length = 8 + 40 * m := by omega
  rw [← hm2] at hDl
  clear hq hr hb hm hn s3 hD hm2 hf
  generalize numA b 4 = N at *
  generalize hbl : b.length = n at *
  have HBL := Lib.hid hbl
  have HBM := Lib.hid hbm
  obtain ⟨R, hR⟩ : ∃ R, R = (if vchkE D = 0 then D else []) := ⟨_, rfl⟩
  rw [← hR]
  have HRE := Lib.hid hR
  have hm9 : m ≤ 250 := by omega
  obtain ⟨E, hE⟩ : ∃ E, E = vchkE D := ⟨_, rfl⟩
  rw [← hE] at CK HRE
  rw [← hE]
  clear hbl hbm hR hE
  go_enter Try.func12, Try.ntmps12
  go_upto_region 3 with ((with_reducible refine (C1.out _ (Kep.refl _ _)).mono ?_); rintro e w1 ⟨rfl, g1⟩; have G1 := Lib.hid g1; clear g1)
  go_wp2_with fail
  go_loopw [4, 5] (fun out i wr => ∃ (k : Nat) (A : Int), k ≤ m ∧ i = .int .i64 A ∧ Hid (A = 8 + 40 * (k : Int)) ∧ Hid (wr.ownsRow w.heap.size 46 10 out (D.take k).length ((D.take k).flatMap vals) ∧ Kep w.heap.size w wr)) (fun _ i _ => 9000 - (RowKit.intOf i).toNat)
  case atStart => exact ⟨0, 8, by omega, rfl, Lib.hid rfl, Lib.hid ⟨World.ownsRow_nil _ _ _ _, G1.out⟩⟩
  case round =>
    obtain ⟨k, A, hk, rfl, HA, HP⟩ := hrel
    clear G1
    have hA := HA.out
    by_cases hlt : k < m
    · have hbm := HBM.out
      have i1 : A < (n : Int) := by omega
      have i0 : 0 ≤ A := by omega
      have i3 : A + 40 ≤ (n : Int) := by omega
      have e1 : IntKind.i64.wrap (A + 40) = A + 40 := by rw [IntKind.wrap_i64]; omega
      obtain ⟨X, hX⟩ : ∃ X, X = Value.slice (some ⟨g, off + (8 + 40 * k), none⟩) 40 (c - (8 + 40 * k)) := ⟨_, rfl⟩
      have x0 : ∀ W, (Instr.slice 23 (.slice (some ⟨g, off, none⟩) n c) (some (.int .i64 A)) (some (.int .i64 (A + 40))) none).run Try.prog W = .ok X W := fun W => by
        have := win_run g off n c (8 + 40 * k) (8 + 40 * k + 40) (by omega) (by omega) (by omega) W
        rw [show ((8 + 40 * k : Nat) : Int) = A by omega, show ((8 + 40 * k + 40 : Nat) : Int) = A + 40 by omega, show 8 + 40 * k + 40 - (8 + 40 * k) = 40 by omega, ← hX] at this
        exact this
      obtain ⟨X0, hX0⟩ : ∃ X', X' = Value.slice (some ⟨g, off + (8 + 40 * k), none⟩) 4 (c - (8 + 40 * k)) := ⟨_, rfl⟩
      have y0 : ∀ W, (Instr.slice 23 X none (some (.int .i64 4)) none).run Try.prog W = .ok X0 W := fun W => by rw [hX, hX0]; exact win_till g (off + (8 + 40 * k)) 40 (c - (8 + 40 * k)) 4 (by omega) (by omega) W
      obtain ⟨n0, hs0⟩ : ∃ s : Int, s = numA b (8 + 40 * k) := ⟨_, rfl⟩
      have C0 : Hid (∀ W, Kep w.heap.size w W → Calls Try.prog 24 #[X0] W fun e w' => e = .returned (.int .i64 n0) ∧ Kep W.heap.size W w') := Lib.hid fun W q => by
        rw [hX0, hs0]
        exact num_at HB.out HQ.out q (lo := 8 + 40 * k) (by have := HBL.out; omega) rfl rfl
      obtain ⟨X1, hX1⟩ : ∃ X', X' = Value.slice (some ⟨g, off + (8 + 40 * k) + 4, none⟩) 4 (c - (8 + 40 * k) - 4) := ⟨_, rfl⟩
      have y1 : ∀ W, (Instr.slice 23 X (some (.int .i64 4)) (some (.int .i64 8)) none).run Try.prog W = .ok X1 W := fun W => by rw [hX, hX1]; exact win_run g (off + (8 + 40 * k)) 40 (c - (8 + 40 * k)) 4 8 (by omega) (by omega) (by omega) W
      obtain ⟨s1, hs1⟩ : ∃ s : Int, s = sgn (numA b (8 + 40 * k + 4)) := ⟨_, rfl⟩
      have C1 : Hid (∀ W, Kep w.heap.size w W → Calls Try.prog 25 #[X1] W fun e w' => e = .returned (.int .i32 s1) ∧ Kep W.heap.size W w') := Lib.hid fun W q => by
        rw [hX1, hs1]
        exact sgn_at HB.out HQ.out q (lo := 8 + 40 * k + 4) (by have := HBL.out; omega) (by omega) (by omega)
      obtain ⟨X2, hX2⟩ : ∃ X', X' = Value.slice (some ⟨g, off + (8 + 40 * k) + 8, none⟩) 4 (c - (8 + 40 * k) - 8) := ⟨_, rfl⟩
      have y2 : ∀ W, (Instr.slice 23 X (some (.int .i64 8)) (some (.int .i64 12)) none).run Try.prog W = .ok X2 W := fun W => by rw [hX, hX2]; exact win_run g (off + (8 + 40 * k)) 40 (c - (8 + 40 * k)) 8 12 (by omega) (by omega) (by omega) W
      obtain ⟨s2, hs2⟩ : ∃ s : Int, s = sgn (numA b (8 + 40 * k + 8)) := ⟨_, rfl⟩
      have C2 : Hid (∀ W, Kep w.heap.size w W → Calls Try.prog 25 #[X2] W fun e w' => e = .returned (.int .i32 s2) ∧ Kep W.heap.size W w') := Lib.hid fun W q => by
        rw [hX2, hs2]
        exact sgn_at HB.out HQ.out q (lo := 8 + 40 * k + 8) (by have := HBL.out; omega) (by omega) (by omega)
      obtain ⟨X3, hX3⟩ : ∃ X', X' = Value.slice (some ⟨g, off + (8 + 40 * k) + 12, none⟩) 4 (c - (8 + 40 * k) - 12) := ⟨_, rfl⟩
      have y3 : ∀ W, (Instr.slice 23 X (some (.int .i64 12)) (some (.int .i64 16)) none).run Try.prog W = .ok X3 W := fun W => by rw [hX, hX3]; exact win_run g (off + (8 + 40 * k)) 40 (c - (8 + 40 * k)) 12 16 (by omega) (by omega) (by omega) W
      obtain ⟨s3, hs3⟩ : ∃ s : Int, s = sgn (numA b (8 + 40 * k + 12)) := ⟨_, rfl⟩
      have C3 : Hid (∀ W, Kep w.heap.size w W → Calls Try.prog 25 #[X3] W fun e w' => e = .returned (.int .i32 s3) ∧ Kep W.heap.size W w') := Lib.hid fun W q => by
        rw [hX3, hs3]
        exact sgn_at HB.out HQ.out q (lo := 8 + 40 * k + 12) (by have := HBL.out; omega) (by omega) (by omega)
      obtain ⟨X4, hX4⟩ : ∃ X', X' = Value.slice (some ⟨g, off + (8 + 40 * k) + 16, none⟩) 4 (c - (8 + 40 * k) - 16) := ⟨_, rfl⟩
      have y4 : ∀ W, (Instr.slice 23 X (some (.int .i64 16)) (some (.int .i64 20)) none).run Try.prog W = .ok X4 W := fun W => by rw [hX, hX4]; exact win_run g (off + (8 + 40 * k)) 40 (c - (8 + 40 * k)) 16 20 (by omega) (by omega) (by omega) W
      obtain ⟨s4, hs4⟩ : ∃ s : Int, s = sgn (numA b (8 + 40 * k + 16)) := ⟨_, rfl⟩
      have C4 : Hid (∀ W, Kep w.heap.size w W → Calls Try.prog 25 #[X4] W fun e w' => e = .returned (.int .i32 s4) ∧ Kep W.heap.size W w') := Lib.hid fun W q => by
        rw [hX4, hs4]
        exact sgn_at HB.out HQ.out q (lo := 8 + 40 * k + 16) (by have := HBL.out; omega) (by omega) (by omega)
      obtain ⟨X5, hX5⟩ : ∃ X', X' = Value.slice (some ⟨g, off + (8 + 40 * k) + 20, none⟩) 4 (c - (8 + 40 * k) - 20) := ⟨_, rfl⟩
      have y5 : ∀ W, (Instr.slice 23 X (some (.int .i64 20)) (some (.int .i64 24)) none).run Try.prog W = .ok X5 W := fun W => by rw [hX, hX5]; exact win_run g (off + (8 + 40 * k)) 40 (c - (8 + 40 * k)) 20 24 (by omega) (by omega) (by omega) W
      obtain ⟨s5, hs5⟩ : ∃ s : Int, s = sgn (numA b (8 + 40 * k + 20)) := ⟨_, rfl⟩
      have C5 : Hid (∀ W, Kep w.heap.size w W → Calls Try.prog 25 #[X5] W fun e w' => e = .returned (.int .i32 s5) ∧ Kep W.heap.size W w') := Lib.hid fun W q => by
        rw [hX5, hs5]
        exact sgn_at HB.out HQ.out q (lo := 8 + 40 * k + 20) (by have := HBL.out; omega) (by omega) (by omega)
      obtain ⟨X6, hX6⟩ : ∃ X', X' = Value.slice (some ⟨g, off + (8 + 40 * k) + 24, none⟩) 4 (c - (8 + 40 * k) - 24) := ⟨_, rfl⟩
      have y6 : ∀ W, (Instr.slice 23 X (some (.int .i64 24)) (some (.int .i64 28)) none).run Try.prog W = .ok X6 W := fun W => by rw [hX, hX6]; exact win_run g (off + (8 + 40 * k)) 40 (c - (8 + 40 * k)) 24 28 (by omega) (by omega) (by omega) W
      obtain ⟨s6, hs6⟩ : ∃ s : Int, s = sgn (numA b (8 + 40 * k + 24)) := ⟨_, rfl⟩
      have C6 : Hid (∀ W, Kep w.heap.size w W → Calls Try.prog 25 #[X6] W fun e w' => e = .returned (.int .i32 s6) ∧ Kep W.heap.size W w') := Lib.hid fun W q => by
        rw [hX6, hs6]
        exact sgn_at HB.out HQ.out q (lo := 8 + 40 * k + 24) (by have := HBL.out; omega) (by omega) (by omega)
      obtain ⟨X7, hX7⟩ : ∃ X', X' = Value.slice (some ⟨g, off + (8 + 40 * k) + 28, none⟩) 4 (c - (8 + 40 * k) - 28) := ⟨_, rfl⟩
      have y7 : ∀ W, (Instr.slice 23 X (some (.int .i64 28)) (some (.int .i64 32)) none).run Try.prog W = .ok X7 W := fun W => by rw [hX, hX7]; exact win_run g (off + (8 + 40 * k)) 40 (c - (8 + 40 * k)) 28 32 (by omega) (by omega) (by omega) W
      obtain ⟨s7, hs7⟩ : ∃ s : Int, s = sgn (numA b (8 + 40 * k + 28)) := ⟨_, rfl⟩
      have C7 : Hid (∀ W, Kep w.heap.size w W → Calls Try.prog 25 #[X7] W fun e w' => e = .returned (.int .i32 s7) ∧ Kep W.heap.size W w') := Lib.hid fun W q => by
        rw [hX7, hs7]
        exact sgn_at HB.out HQ.out q (lo := 8 + 40 * k + 28) (by have := HBL.out; omega) (by omega) (by omega)
      obtain ⟨X8, hX8⟩ : ∃ X', X' = Value.slice (some ⟨g, off + (8 + 40 * k) + 32, none⟩) 4 (c - (8 + 40 * k) - 32) := ⟨_, rfl⟩
      have y8 : ∀ W, (Instr.slice 23 X (some (.int .i64 32)) (some (.int .i64 36)) none).run Try.prog W = .ok X8 W := fun W => by rw [hX, hX8]; exact win_run g (off + (8 + 40 * k)) 40 (c - (8 + 40 * k)) 32 36 (by omega) (by omega) (by omega) W
      obtain ⟨s8, hs8⟩ : ∃ s : Int, s = sgn (numA b (8 + 40 * k + 32)) := ⟨_, rfl⟩
      have C8 : Hid (∀ W, Kep w.heap.size w W → Calls Try.prog 25 #[X8] W fun e w' => e = .returned (.int .i32 s8) ∧ Kep W.heap.size W w') := Lib.hid fun W q => by
        rw [hX8, hs8]
        exact sgn_at HB.out HQ.out q (lo := 8 + 40 * k + 32) (by have := HBL.out; omega) (by omega) (by omega)
      obtain ⟨X9, hX9⟩ : ∃ X', X' = Value.slice (some ⟨g, off + (8 + 40 * k) + 36, none⟩) 4 (c - (8 + 40 * k) - 36) := ⟨_, rfl⟩
      have y9 : ∀ W, (Instr.slice 23 X (some (.int .i64 36)) (some (.int .i64 40)) none).run Try.prog W = .ok X9 W := fun W => by rw [hX, hX9]; exact win_run g (off + (8 + 40 * k)) 40 (c - (8 + 40 * k)) 36 40 (by omega) (by omega) (by omega) W
      obtain ⟨s9, hs9⟩ : ∃ s : Int, s = sgn (numA b (8 + 40 * k + 36)) := ⟨_, rfl⟩
      have C9 : Hid (∀ W, Kep w.heap.size w W → Calls Try.prog 25 #[X9] W fun e w' => e = .returned (.int .i32 s9) ∧ Kep W.heap.size W w') := Lib.hid fun W q => by
        rw [hX9, hs9]
        exact sgn_at HB.out HQ.out q (lo := 8 + 40 * k + 36) (by have := HBL.out; omega) (by omega) (by omega)
      have r0 : 0 ≤ n0 ∧ n0 < 4294967296 := by rw [hs0]; exact numA_byt HB.out _
      have e32 : IntKind.u32.wrap n0 = n0 := by rw [IntKind.wrap_u32]; omega
      have hdk : (D.take k).length ≤ 9000 := by rw [List.length_take]; omega
      have HY := Lib.hid (show D.take (k + 1) = D.take k ++ [⟨n0, s1, s2, s3, s4, s5, s6, s7, s8, s9⟩] by
        rw [List.take_add_one, HD.out]
        unfold decV
        rw [List.getElem?_map, List.getElem?_range (by have := HBL.out; omega), hs0, hs1, hs2, hs3, hs4, hs5, hs6, hs7, hs8, hs9]
        rfl)
      have HA2 := Lib.hid (show A + 40 = 8 + 40 * ((k + 1 : Nat) : Int) by omega)
      clear hX hX0 hs0 hX1 hs1 hX2 hs2 hX3 hs3 hX4 hs4 hX5 hs5 hX6 hs6 hX7 hs7 hX8 hs8 hX9 hs9 hA hbm
      go_upto_region 8 with fail
      refine wp_region_noPanic ?_
      refine wp_region_held_drew (S := fun w' => Kep w.heap.size w w') (by kernel_rfl) (kep_drew HP.out.2) (fun hH => ?_)
      have HO := Lib.hid (own_kep HP.out.1 (kep_drew (Kep.refl _ _)) (Nat.le_refl _))
      clear HP
      generalize wr.drew = Y0 at *
      refine sT 0 hH ?_
      refine sT 1 hH ?_
      refine sN 2 hH ?_
      refine sT 5 hH ?_
      refine sT 6 hH ?_
      refine sN 8 hH ?_
      refine sT 9 hH ?_
      refine sT 11 hH ?_
      refine sN 12 hH ?_
      refine sT 15 hH ?_
      refine sT 16 hH ?_
      refine sN 18 hH ?_
      refine sT 19 hH ?_
      refine sT 21 hH ?_
      refine sN 22 hH ?_
      refine sT 24 hH ?_
      refine sT 25 hH ?_
      refine sN 28 hH ?_
      refine sT 29 hH ?_
      refine sT 31 hH ?_
      refine sN 32 hH ?_
      refine sC 3 (fun K hK => ?_)
      go_simp
      (with_reducible refine (C0.out _ hH).mono ?_); rintro e U0 ⟨rfl, g1⟩
      replace HO := Lib.hid (own_kep HO.out g1 (Nat.le_refl _))
      refine hK.out _ _ (kep_next hH g1) (fun hH2 => ?_)
      clear g1
      clear hK K hH; have hH := hH2; clear hH2
      try simp only [Act.put, List.setIfInBounds_toArray, List.set_cons_zero, List.set_cons_succ]
      refine sN 4 hH ?_
      refine sC 7 (fun K hK => ?_)
      go_simp
      (with_reducible refine (C1.out _ hH).mono ?_); rintro e U1 ⟨rfl, g1⟩
      replace HO := Lib.hid (own_kep HO.out g1 (Nat.le_refl _))
      refine hK.out _ _ (kep_next hH g1) (fun hH2 => ?_)
      clear g1
      clear hK K hH; have hH := hH2; clear hH2
      try simp only [Act.put, List.setIfInBounds_toArray, List.set_cons_zero, List.set_cons_succ]
      refine sC 10 (fun K hK => ?_)
      go_simp
      (with_reducible refine (C2.out _ hH).mono ?_); rintro e U2 ⟨rfl, g1⟩
      replace HO := Lib.hid (own_kep HO.out g1 (Nat.le_refl _))
      refine hK.out _ _ (kep_next hH g1) (fun hH2 => ?_)
      clear g1
      clear hK K hH; have hH := hH2; clear hH2
      try simp only [Act.put, List.setIfInBounds_toArray, List.set_cons_zero, List.set_cons_succ]
      refine sC 13 (fun K hK => ?_)
      go_simp
      (with_reducible refine (C3.out _ hH).mono ?_); rintro e U3 ⟨rfl, g1⟩
      replace HO := Lib.hid (own_kep HO.out g1 (Nat.le_refl _))
      refine hK.out _ _ (kep_next hH g1) (fun hH2 => ?_)
      clear g1
      clear hK K hH; have hH := hH2; clear hH2
      try simp only [Act.put, List.setIfInBounds_toArray, List.set_cons_zero, List.set_cons_succ]
      refine sN 14 hH ?_
      refine sC 17 (fun K hK => ?_)
      go_simp
      (with_reducible refine (C4.out _ hH).mono ?_); rintro e U4 ⟨rfl, g1⟩
      replace HO := Lib.hid (own_kep HO.out g1 (Nat.le_refl _))
      refine hK.out _ _ (kep_next hH g1) (fun hH2 => ?_)
      clear g1
      clear hK K hH; have hH := hH2; clear hH2
      try simp only [Act.put, List.setIfInBounds_toArray, List.set_cons_zero, List.set_cons_succ]
      refine sC 20 (fun K hK => ?_)
      go_simp
      (with_reducible refine (C5.out _ hH).mono ?_); rintro e U5 ⟨rfl, g1⟩
      replace HO := Lib.hid (own_kep HO.out g1 (Nat.le_refl _))
      refine hK.out _ _ (kep_next hH g1) (fun hH2 => ?_)
      clear g1
      clear hK K hH; have hH := hH2; clear hH2
      try simp only [Act.put, List.setIfInBounds_toArray, List.set_cons_zero, List.set_cons_succ]
      refine sC 23 (fun K hK => ?_)
      go_simp
      (with_reducible refine (C6.out _ hH).mono ?_); rintro e U6 ⟨rfl, g1⟩
      replace HO := Lib.hid (own_kep HO.out g1 (Nat.le_refl _))
      refine hK.out _ _ (kep_next hH g1) (fun hH2 => ?_)
      clear g1
      clear hK K hH; have hH := hH2; clear hH2
      try simp only [Act.put, List.setIfInBounds_toArray, List.set_cons_zero, List.set_cons_succ]
      refine sC 26 (fun K hK => ?_)
      go_simp
      (with_reducible refine (C7.out _ hH).mono ?_); rintro e U7 ⟨rfl, g1⟩
      replace HO := Lib.hid (own_kep HO.out g1 (Nat.le_refl _))
      refine hK.out _ _ (kep_next hH g1) (fun hH2 => ?_)
      clear g1
      clear hK K hH; have hH := hH2; clear hH2
      try simp only [Act.put, List.setIfInBounds_toArray, List.set_cons_zero, List.set_cons_succ]
      refine sN 27 hH ?_
      refine sC 30 (fun K hK => ?_)
      go_simp
      (with_reducible refine (C8.out _ hH).mono ?_); rintro e U8 ⟨rfl, g1⟩
      replace HO := Lib.hid (own_kep HO.out g1 (Nat.le_refl _))
      refine hK.out _ _ (kep_next hH g1) (fun hH2 => ?_)
      clear g1
      clear hK K hH; have hH := hH2; clear hH2
      try simp only [Act.put, List.setIfInBounds_toArray, List.set_cons_zero, List.set_cons_succ]
      refine sC 33 (fun K hK => ?_)
      go_simp
      (with_reducible refine (C9.out _ hH).mono ?_); rintro e U9 ⟨rfl, g1⟩
      replace HO := Lib.hid (own_kep HO.out g1 (Nat.le_refl _))
      refine hK.out _ _ (kep_next hH g1) (fun hH2 => ?_)
      clear g1
      clear hK K hH; have hH := hH2; clear hH2
      try simp only [Act.put, List.setIfInBounds_toArray, List.set_cons_zero, List.set_cons_succ]
      refine sN 34 hH ?_
      refine sN 35 hH ?_
      refine sC 36 (fun K hK => ?_)
      go_simp
      refine hK.out _ _ (kep_more hH _) (fun hH2 => ?_)
      have h9 := hH
      clear hK K hH; have hH := hH2; clear hH2
      try simp only [Act.put, List.setIfInBounds_toArray, List.set_cons_zero, List.set_cons_succ]
      refine sC 37 (fun K hK => ?_)
      refine step_app vals 10 (fun _ => rfl) one_cell (by rfl) _ _ 22 (by rfl) 46 _ 40 Try.underlying22 info_body rfl (by decide) w.heap.size U9 _ (D.take k) ⟨n0, s1, s2, s3, s4, s5, s6, s7, s8, s9⟩ (by rfl) HO.out _ rfl (by rfl) #[.int .u32 n0, .int .i32 s1, .int .i32 s2, .int .i32 s3, .int .i32 s4, .int .i32 s5, .int .i32 s6, .int .i32 s7, .int .i32 s8, .int .i32 s9] rfl (by unfold maxLen; omega) (by omega) h9.size ?_
      intro v7 U10 o7 g7
      have ha := Lib.hid ((kep_more h9 _).trans g7)
      replace HO := Lib.hid o7
      refine hK.out _ _ ha.out (fun hH2 => ?_)
      clear o7 g7 ha h9
      clear hK K hH; have hH := hH2; clear hH2
      try simp only [Act.put, List.setIfInBounds_toArray, List.set_cons_zero, List.set_cons_succ]
      refine sN 38 hH ?_
      refine sE ?_
      rw [← HY.out] at HO
      have HR := Lib.hid (And.intro HO.out hH)
      clear HO hH
      go_wp2_with fail
      go_roundw
      case rel => exact ⟨k + 1, A + 40, by omega, by go_num, HA2, HR⟩
      case measure => simp [RowKit.intOf]; omega
    · obtain rfl : k = m := by omega
      have hbm := HBM.out
      have i2 : ¬ A < (n : Int) := by omega
      have HO := Lib.hid (show wr.ownsRow w.heap.size 46 10 _ D.length (flat D) ∧ Kep w.heap.size w wr by
        have := HP.out
        rw [List.take_of_length_le (Nat.le_of_eq hDl)] at this
        exact this)
      have HL := Lib.hid (own_lst HO.out.1)
      clear hbm hA HP HA
      by_cases z : E = 0
      · have HZ : Hid (R = D) := Lib.hid (by rw [HRE.out, if_pos z])
        subst z
        go_wp2_with ((with_reducible refine (CK.out _ _ HL.out).mono ?_); rintro e w2 ⟨rfl, g2⟩; have G2 := Lib.hid g2; clear g2)
        go_ret2
        exact ⟨_, rfl, by rw [HZ.out]; exact HL.out.kep G2.out, kep_next HO.out.2 G2.out⟩
      · have HZ : Hid (R = []) := Lib.hid (by rw [HRE.out, if_neg z])
        have d0 : (E != 0) = true := by simp [z]
        clear z
        go_wp2_with ((with_reducible refine (CK.out _ _ HL.out).mono ?_); rintro e w2 ⟨rfl, g2⟩; have G2 := Lib.hid g2; clear g2)
        go_ret2
        exact ⟨_, rfl, by rw [HZ.out]; exact .inl ⟨rfl, _, _, rfl⟩, kep_next HO.out.2 G2.out⟩
theorem rde : EDe Try.prog 12 := fun v b w hq hr hb hl => by
  by_cases hf : okF b = true
  · have e : decE b = vchkE (decV b) := by unfold decE; rw [if_pos hf]
    rw [e]
    exact rde_ok hq hr hb hl hf
  · have e : decE b = 13 := by unfold decE; rw [if_neg hf]
    rw [e, if_neg (by decide)]
    have done : ∀ {x : Calls Try.prog 12 #[v] w fun e w' => e = .returned (.tuple #[.slice none 0 0, .int .i64 13]) ∧ Kep w.heap.size w w'}, Calls Try.prog 12 #[v] w fun e w' => ∃ v', e = .returned (.tuple #[v', .int .i64 13]) ∧ Lst w' v' [] ∧ Kep w.heap.size w w' := fun {x} => x.mono fun _ _ ⟨h1, h2⟩ => ⟨_, h1, .inl ⟨rfl, _, _, rfl⟩, h2⟩
    by_cases h8 : b.length < 8
    · exact done (x := rde_short hq hr hb hl h8)
    · by_cases hm : b.take 4 = magic
      · exact done (x := rde_len hq hr hb hl (by omega) hm (fun hn => hf (by
          unfold okF
          rw [Bool.and_eq_true, Bool.and_eq_true]
          exact ⟨decide_eq_true (by omega), decide_eq_true hm, decide_eq_true hn⟩)))
      · exact done (x := rde_magic hq hr hb hl (by omega) hm)
end Go.Proofs.Ytllkokfaodpfiaa
