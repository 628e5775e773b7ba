/-
  Package grid: the reference's Few, At.
-/
import Derived.Test.YtnmnbogjnjbopaaDoorGridRef4
import Derived.Deep.DeepCutAuto
import Derived.Deep.QuietTactic
import Derived.BigQuiet
namespace Go.Proofs.YtnmnbogjnjbopaaDoor
open Go.RowKit Go.Lib

theorem cnt_any {a b c d : Int} (ha : In3 a) (hb : In3 b) (hc : In3 c) (hd : In3 d) : KCt a b c d ((cellsB a b c d).length : Int) := by
  unfold cellsB
  by_cases h : c < a ∨ d < b
  · rw [show empB a b c d = true from decide_eq_true h, if_pos rfl]
    exact fun w => kep_calls (rct_no a b c d h w)
  · have e : empB a b c d = false := decide_eq_false h
    rw [e, if_neg (by simp), allC_len]
    have a1 := colN_in ha
    have a2 := colN_in hb
    have a3 := colN_in hc
    have a4 := colN_in hd
    have m1 := colN_le (show a ≤ c by omega)
    have m2 := colN_le (show b ≤ d by omega)
    have hn : ((ncB a c : Nat) : Int) = colN c - colN a + 1 := by unfold ncB; omega
    have hm : ((ncB b d : Nat) : Int) = colN d - colN b + 1 := by unfold ncB; omega
    have lnm : ncB a c * ncB b d ≤ 1024 * 1024 := Nat.mul_le_mul (by omega) (by omega)
    have hx : (((ncB b d * ncB a c : Nat)) : Int) = ((ncB a c * ncB b d : Nat) : Int) := by rw [Nat.mul_comm]
    rw [hx]
    exact fun w => kep_calls (rct_yes a b c d (colN a) (colN b) (colN c) (colN d) (ncB a c) (ncB b d) _ (Lib.hid (rem _ _ _ _ false e)) (Lib.hid (rcl hc)) (Lib.hid (rcl ha)) (Lib.hid (rcl hd)) (Lib.hid (rcl hb))
      (by rw [IntKind.wrap_i64]; omega) (by rw [IntKind.wrap_i64]; omega) (by rw [IntKind.wrap_i64]; omega) (by rw [IntKind.wrap_i64]; omega) (by rw [← Int.natCast_mul, IntKind.wrap_i64]; omega) (by rw [IntKind.wrap_i64]; omega) (by rw [IntKind.wrap_i64]; omega) (by rw [IntKind.wrap_i64]; omega) (by rw [IntKind.wrap_i64]; omega) w)
set_option maxRecDepth 100000 in
set_option maxHeartbeats 2000000 in
theorem rfw (L : List Ent) (hm : L.length ≤ 9223372036854775807) (HF : Hid (∀ x ∈ L, FitE x)) (v : Value) (w : World) (h : Sq ev 5 w v L) : Calls Tryd.prog 14 #[v] w fun e w' => e = .returned (.bool (fewB L)) ∧ Kep w.heap.size w w' := by
  obtain ⟨base, cap, rfl, H⟩ := h
  have HC := Lib.hid H
  clear H
  generalize hl : L.length = len at *
  have HN := Lib.hid hl
  clear hl
  go_enter Tryd.func14, Tryd.ntmps14
  go_wp2_with fail
  go_loopw [3] (fun i wr => ∃ k : Nat, k ≤ len ∧ k ≤ 41 ∧ i = .int .i64 k ∧ Hid (∀ x ∈ L.take k, (cellsB x.a x.b x.c x.d).length ≤ 50) ∧ Hid (Kep w.heap.size w wr)) (fun i _ => len - (RowKit.intOf i).toNat)
  case atStart => exact ⟨0, by omega, by omega, rfl, Lib.hid (by simp), Lib.hid (Kep.refl _ _)⟩
  case round =>
    obtain ⟨k, hk, hk41, rfl, HA, HK⟩ := hrel
    by_cases hlt : k < len
    · by_cases h40 : k ≤ 40
      · have hb : L[k]? = some (L[k]'(by rw [HN.out]; exact hlt)) := List.getElem?_eq_getElem _
        generalize L[k]'(by rw [HN.out]; exact hlt) = x at hb
        obtain ⟨gl, off, rfl, q⟩ := HC.out k x hb
        have hf := HF.out x (List.mem_of_getElem? hb)
        obtain ⟨n, hn⟩ : ∃ n : Nat, n = (cellsB x.a x.b x.c x.d).length := ⟨_, rfl⟩
        have N1 : Hid (KCt x.a x.b x.c x.d (n : Int)) := Lib.hid (by rw [hn]; exact cnt_any hf.1 hf.2.1 hf.2.2.1 hf.2.2.2)
        have t1 : wr.cell? ⟨gl, off + k * 5 + 1, none⟩ = some (.int .i32 x.a) := HK.out.all (q 1 _ rfl)
        have t2 : wr.cell? ⟨gl, off + k * 5 + 2, none⟩ = some (.int .i32 x.b) := HK.out.all (q 2 _ rfl)
        have t3 : wr.cell? ⟨gl, off + k * 5 + 3, none⟩ = some (.int .i32 x.c) := HK.out.all (q 3 _ rfl)
        have t4 : wr.cell? ⟨gl, off + k * 5 + 4, none⟩ = some (.int .i32 x.d) := HK.out.all (q 4 _ rfl)
        have HB := Lib.hid hb
        have HNN := Lib.hid hn
        clear hb q hf hn
        obtain ⟨z, hz⟩ : ∃ z, decide ((50 : Int) < (n : Int)) = z := ⟨_, rfl⟩
        have HZ := Lib.hid hz
        cases z
        · go_wp2_with ((with_reducible refine (N1.out _).mono ?_); rintro e w2 ⟨rfl, g2⟩)
          go_roundw
          case rel => exact ⟨k + 1, by omega, by omega, by go_num, Lib.hid (fun y hy => by
              rw [List.take_add_one, HB.out] at hy
              rcases List.mem_append.1 hy with hy | hy
              · exact HA.out y hy
              · obtain rfl : y = x := by simpa using hy
                have := of_decide_eq_false HZ.out
                rw [← HNN.out]
                omega), Lib.hid (kep_next HK.out g2)⟩
          case measure => simp [RowKit.intOf]; omega
        · go_wp2_with ((with_reducible refine (N1.out _).mono ?_); rintro e w2 ⟨rfl, g2⟩)
          go_ret
          refine ⟨?_, kep_next HK.out g2⟩
          have e : fewB L = false := by
            unfold fewB
            have : (L.all fun e => decide ((cellsB e.a e.b e.c e.d).length ≤ 50)) = false := by
              rw [List.all_eq_false]
              refine ⟨x, List.mem_of_getElem? HB.out, ?_⟩
              have := of_decide_eq_true HZ.out
              have := HNN.out
              simp
              omega
            rw [this, Bool.and_false]
          rw [e]
          rfl
      · go_wp2_with fail
        go_ret
        have e : decide ((len : Int) ≤ 40) = fewB L := by
          unfold fewB
          rw [decide_eq_false (show ¬ L.length ≤ 40 by rw [HN.out]; omega), decide_eq_false (by omega)]
          rfl
        exact ⟨by rw [← e]; rfl, HK.out⟩
    · go_wp2_with fail
      go_ret
      have e : decide ((len : Int) ≤ 40) = fewB L := by
        unfold fewB
        have : (L.all fun e => decide ((cellsB e.a e.b e.c e.d).length ≤ 50)) = true := by
          rw [List.all_eq_true]
          intro x hx
          exact decide_eq_true (HA.out x (by rw [List.take_of_length_le (by rw [HN.out]; omega)]; exact hx))
        rw [this, Bool.and_true]
        exact decide_eq_decide.2 (by rw [HN.out]; omega)
      exact ⟨by rw [← e]; rfl, HK.out⟩
end Go.Proofs.YtnmnbogjnjbopaaDoor
