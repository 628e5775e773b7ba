/-
  Package codec: Encode.
-/
import Derived.Test.YtllkokfaodpfiaaCdcOps2
import Derived.Test.YtllkokfaodpfiaaViewCheck
import Derived.Laws.MakeOwn
import Derived.Lib.AppendStr
import Derived.Deep.DeepCutAuto
import Derived.Deep.QuietTactic
import Derived.BigQuiet
namespace Go.Proofs.Ytllkokfaodpfiaa
open Go.RowKit Go.Lib

theorem mk_byt (m : Nat) (h : m ≤ 9000) (W : World) : (Instr.makeSlice 23 (.int .i64 0) (.int .i64 (m : Int))).run Try.prog W = .ok (.slice (some ⟨W.heap.size, 0, none⟩) 0 m) (W.alloc (.cells (madeCells #[.int .u8 0] (m * 1)) 5)) := by
  obtain ⟨i0, hi, hz0, hz1, hz2⟩ := info_parts info_u8
  have r := run_make (P := Try.prog) W 23 5 i0 _ Try.underlying23 hi hz0 .i64 .i64 0 (m : Int) (Int.le_refl _) (by omega) (by rw [hz2]; omega) (by omega)
  rw [hz1, Int.toNat_natCast] at r
  exact r
theorem own_byt (Y : World) (m : Nat) (h : m ≤ 9000) {B : Nat} (k : B ≤ Y.heap.size) : (Y.alloc (.cells (madeCells #[.int .u8 0] m) 5)).ownsRow B 5 1 (.slice (some ⟨Y.heap.size, 0, none⟩) 0 m) 0 [] :=
  World.ownsRow_made Y _ m k (by unfold maxLen; omega) (by rw [size_madeCells, Nat.mul_one])
theorem str_magic : strCells ⟨#[66, 73, 76, 49]⟩ = magic.flatMap bv := by rfl
theorem magic_own {w : World} {B : Nat} {v : Value} (h : w.ownsRow B 5 1 v (0 + ByteArray.size ⟨#[66, 73, 76, 49]⟩) ([] ++ strCells ⟨#[66, 73, 76, 49]⟩)) : BufB w B v magic := buf_own (t := 5) (by rw [← str_magic]; exact h) (by simp [magic])
theorem arr_ix {ns : List Int} (hl : ns.length = 10) {j : Nat} {y : Int} (h : ns[j]? = some y) (w : World) : (Instr.index 49 (.agg (uA ns)) (.int .i64 (j : Int))).run Try.prog w = .ok (.int .u32 y) w := by
  have h1 : (uA ns)[j]? = some (.int .u32 y) := by
    unfold uA
    rw [List.getElem?_toArray, List.getElem?_map, h]
    rfl
  have h2 : (0 : Int) ≤ (j : Int) := Int.natCast_nonneg _
  have h3 : j < 10 := by have := (List.getElem?_eq_some_iff.1 h).1; omega
  unfold Instr.index
  simp [asIntOf, run_underlying Try.underlying49, Try.sizeOf42, h1, h2, part, Try.isAgg42]
  exact fun h => absurd h (by omega)
theorem w4_mod (n : Int) : w4 (n % 4294967296) = w4 n := by
  unfold w4
  simp only [List.cons.injEq, and_true]
  refine ⟨?_, ?_, ?_, ?_⟩ <;> omega
theorem wds_enc (x : Bd) : (wds x).flatMap w4 = encB x := by
  rw [encB_eq]
  unfold wds
  simp only [List.flatMap_cons, List.flatMap_nil, w4_mod]
theorem wds_bd {x : Bd} (h : Fits x) : ∀ n ∈ wds x, 0 ≤ n ∧ n < 4294967296 := fun n hn => by
  have := (fits_r h).1
  unfold wds at hn
  simp only [List.mem_cons, List.not_mem_nil, or_false] at hn
  rcases hn with rfl | rfl | rfl | rfl | rfl | rfl | rfl | rfl | rfl | rfl <;> omega
theorem flat_w4_len : ∀ l : List Int, (l.flatMap w4).length = 4 * l.length
  | [] => rfl
  | n :: l => by rw [List.flatMap_cons, List.length_append, flat_w4_len l, w4_len, List.length_cons]; omega
set_option maxRecDepth 100000 in
set_option maxHeartbeats 8000000 in
theorem cen : EEn Try.prog 9 := fun v L w hv hf hl => by
  have C1 := Lib.hid (vcheck_p v L w hv hf (by omega))
  obtain ⟨base, cap, rfl⟩ := hv.shape
  by_cases z : vchkE L = 0
  · have HE : Hid (vchkE L = 0) := Lib.hid z
    rw [z] at C1
    have HL := Lib.hid hv
    have HX := Lib.hid hf
    clear hv hf z
    generalize hn : L.length = n at *
    have HN := Lib.hid hn
    clear hn
    obtain ⟨m, hm⟩ : ∃ m : Nat, m = 8 + 40 * n := ⟨_, rfl⟩
    have CS : Hid (∀ W, Calls Try.prog 15 #[.int .i64 (n : Int)] W fun e w' => e = .returned (.int .i64 (m : Int)) ∧ Kep W.heap.size W w') := Lib.hid fun W => by
      rw [show (m : Int) = 8 + 40 * (n : Int) by omega]
      exact csz n W (by omega)
    have mk := fun W => mk_byt m (by omega) W
    have eu : IntKind.u32.wrap (n : Int) = (n : Int) := by rw [IntKind.wrap_u32]; omega
    have CO := Lib.hid (fun x w => cwo x w)
    have hm2 : m ≤ 9000 := by omega
    clear hm
    obtain ⟨i0, hi0, hz0, hz1, hz2⟩ := info_parts info_u8
    go_enter Try.func9, Try.ntmps9
    go_upto_region 5 with (first
      | ((with_reducible refine (C1.out).mono ?_); rintro e w1 ⟨rfl, g1⟩; have G1 := Lib.hid g1; clear g1)
      | ((with_reducible refine (CS.out _).mono ?_); rintro e w2 ⟨rfl, g2⟩; have G2 := Lib.hid (kep_next G1.out g2); clear g2))
    have O2 := Lib.hid (own_byt w2 m (by omega) G2.out.size)
    go_upto_region 6 with (at_builtin; refine wpList_append_own_string _ rfl _ _ 23 9 rfl w.heap.size 5 i0 Try.underlying23 Try.underlying9 hi0 hz0 hz1 hz2 _ 0 [] rfl O2.out ⟨#[66, 73, 76, 49]⟩ rfl (by unfold maxLen; simp [ByteArray.size]) (by simp [ByteArray.size]) (Nat.le_trans G2.out.size (by simp)) ?_; intro v3 w3 o3 g3 hni; clear hni; have B3 := Lib.hid (magic_own o3); have G3 := Lib.hid ((kep_more G2.out _).row g3 (Nat.le_trans G2.out.size (by simp)) (fun k hk => by have := G2.out.size; have hk : some w2.heap.size = some k := hk; injection hk with hk; omega)); clear o3 g3 G2 O2)
    have CA := Lib.hid (caw B3.out (by simp [magic]) (n := (n : Int)) (by omega) G3.out.size)
    go_upto_region 7 with ((with_reducible refine (CA.out).mono ?_); rintro e wD ⟨v4, rfl, b4, g4⟩; have B4 := Lib.hid b4; have G4 := Lib.hid (G3.out.trans g4); clear b4 g4 B3 G3)
    go_wp2_with fail
    go_loopw [5, 28] (fun out i wr => ∃ k : Nat, k ≤ n ∧ i = .int .i64 k ∧ Hid (BufB wr w.heap.size out (magic ++ w4 (n : Int) ++ (L.take k).flatMap encB) ∧ Kep w.heap.size w wr)) (fun _ i _ => n - (RowKit.intOf i).toNat)
    case atStart => exact ⟨0, by omega, rfl, Lib.hid ⟨by rw [List.take_zero, List.flatMap_nil, List.append_nil]; exact B4.out, G4.out⟩⟩
    case round =>
      obtain ⟨k, hk, rfl, HP⟩ := hrel
      clear B4 G4 C1 CS CA mk
      by_cases hlt : k < n
      · have hx : L[k]? = some (L[k]'(by rw [HN.out]; exact hlt)) := List.getElem?_eq_getElem _
        generalize L[k]'(by rw [HN.out]; exact hlt) = x at hx
        obtain ⟨g, off, rfl, q⟩ := (HL.out.kep HP.out.2).at_ hx
        have Zx : ZE wr g (off + k * 10) [.int .u32 x.k, .int .i32 x.r, .int .i32 x.ax, .int .i32 x.ay, .int .i32 x.m, .int .i32 x.o, .int .i32 x.px, .int .i32 x.py, .int .i32 x.vx, .int .i32 x.vy] := ze_of q
        obtain ⟨A, hA⟩ : ∃ A, A = magic ++ w4 (n : Int) ++ (L.take k).flatMap encB := ⟨_, rfl⟩
        have hAl : A.length ≤ 90000 := by
          rw [hA, List.length_append, List.length_append, flat_enc_len, w4_len, List.length_take]
          show 4 + 4 + _ ≤ _
          omega
        obtain ⟨ws, hws⟩ : ∃ ws, ws = wds x := ⟨_, rfl⟩
        have HW := Lib.hid (show ws.length = 10 ∧ (∀ n ∈ ws, 0 ≤ n ∧ n < 4294967296) ∧ A ++ ws.flatMap w4 = magic ++ w4 (n : Int) ++ (L.take (k + 1)).flatMap encB by
          rw [hws, hA, wds_enc, List.take_add_one, hx]
          exact ⟨rfl, wds_bd (HX.out x (List.mem_of_getElem? hx)), by simp⟩)
        have HC := Lib.hid (fun w => CO.out x w)
        rw [← hws] at HC
        rw [← hA] at HP
        have i0 : (0 : Int) ≤ (k : Int) := Int.natCast_nonneg _
        have i1 : (k : Int) < (n : Int) := by omega
        clear hx hws hA q CO
        go_wp2_with ((with_reducible refine (HC.out _).mono ?_); rintro e U1 ⟨rfl, g1⟩; have HP2 := Lib.hid (And.intro ((HP.out.1.kep (kep_more (Kep.refl _ _) _)).kep g1) (kep_next (kep_more HP.out.2 _) g1)); clear g1 HP Zx)
        go_loopw [5, 34] (fun out i wq => ∃ j : Nat, j ≤ 10 ∧ i = .int .i64 j ∧ Hid (BufB wq w.heap.size out (A ++ (ws.take j).flatMap w4) ∧ Kep w.heap.size w wq)) (fun _ i _ => 10 - (RowKit.intOf i).toNat)
        case atStart => exact ⟨0, by omega, rfl, Lib.hid ⟨by rw [List.take_zero, List.flatMap_nil, List.append_nil]; exact HP2.out.1, HP2.out.2⟩⟩
        case round =>
          obtain ⟨j, hj, rfl, HR⟩ := hrel
          clear HP2
          by_cases hlj : j < 10
          · have hy : ws[j]? = some (ws[j]'(by rw [HW.out.1]; exact hlj)) := List.getElem?_eq_getElem _
            generalize ws[j]'(by rw [HW.out.1]; exact hlj) = y at hy
            have ax := arr_ix HW.out.1 hy
            have CA := Lib.hid (caw HR.out.1 (by rw [List.length_append, flat_w4_len, List.length_take]; omega) (HW.out.2.1 y (List.mem_of_getElem? hy)) HR.out.2.size)
            have HT := Lib.hid (show A ++ (ws.take j).flatMap w4 ++ w4 y = A ++ (ws.take (j + 1)).flatMap w4 by rw [List.take_add_one, hy]; simp)
            have j1 : (j : Int) < 10 := by omega
            clear hy
            go_wp2_with ((with_reducible refine (CA.out).mono ?_); rintro e U2 ⟨v2, rfl, b2, g2⟩; have B2 := Lib.hid (And.intro b2 (HR.out.2.trans g2)); clear b2 g2)
            go_roundw
            case rel => exact ⟨j + 1, by omega, by go_num, Lib.hid ⟨by rw [← HT.out]; exact B2.out.1, B2.out.2⟩⟩
            case measure => simp [RowKit.intOf]; omega
          · obtain rfl : j = 10 := by omega
            have HS := Lib.hid (show BufB wr w.heap.size _ (magic ++ w4 (n : Int) ++ (L.take (k + 1)).flatMap encB) ∧ Kep w.heap.size w wr by
              have := HR.out
              rw [List.take_of_length_le (Nat.le_of_eq HW.out.1), HW.out.2.2] at this
              exact this)
            clear HR
            go_wp2_with fail
            go_roundw
            case rel => exact ⟨k + 1, by omega, by go_num, HS⟩
            case measure => simp [RowKit.intOf]; omega
      · obtain rfl : k = n := by omega
        have i2 : ¬ (k : Int) < (k : Int) := by omega
        have HB : Hid (BufB wr w.heap.size _ (encL L) ∧ Kep w.heap.size w wr) := Lib.hid (by
          have := HP.out
          rw [List.take_of_length_le (by rw [HN.out]; exact Nat.le_refl _)] at this
          unfold encL
          rw [HN.out]
          exact this)
        clear HP
        go_wp2_with fail
        go_ret2
        rw [HE.out]
        exact ⟨_, rfl, Lib.hid ⟨fun _ => HB.out.1, fun h => absurd rfl h⟩, HB.out.2⟩
  · have HE : Hid (¬ vchkE L = 0) := Lib.hid z
    have d0 : (vchkE L != 0) = true := by simp [z]
    clear hv hf z
    generalize vchkE L = c at *
    go_enter Try.func9, Try.ntmps9
    go_wp2_with ((with_reducible refine (C1.out).mono ?_); rintro e w1 ⟨rfl, g1⟩; have G1 := Lib.hid g1; clear g1)
    go_ret2
    exact ⟨_, rfl, Lib.hid ⟨fun h => absurd h HE.out, fun _ => rfl⟩, G1.out⟩
end Go.Proofs.Ytllkokfaodpfiaa
