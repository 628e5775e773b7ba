/-
  Package correct: the laws' own function that turns shifts into those of the reference.
-/
import Derived.Test.YtlbbacmpdlghaaaCorCon
import Derived.Deep.DeepCutAuto
import Derived.Deep.QuietTactic
import Derived.BigQuiet
namespace Go.Proofs.Ytlbbacmpdlghaaa
open Go.RowKit Go.Lib

set_option maxRecDepth 100000 in
set_option maxHeartbeats 4000000 in
theorem lsh (L : List Sh) (hm : L.length ≤ 100000) (v : Value) (w : World) (h : Sq shv 2 w v L) : Calls Try.prog 17 #[v] w fun e w' => ∃ v', e = .returned v' ∧ Sq shv 2 w' v' L ∧ Kep w.heap.size w w' := by
  obtain ⟨base, cap, rfl, hc⟩ := h
  have HC := Lib.hid hc
  have HLN := Lib.hid (fun (k : Nat) (hk : k ≤ L.length) => (show (L.take k).length = k by rw [List.length_take]; omega))
  clear hc
  generalize hl : L.length = len at *
  have HN := Lib.hid hl
  clear hl
  go_enter Try.func17, Try.ntmps17
  go_wp2_with fail
  go_loopw [3, 4] (fun out i wr => ∃ k : Nat, k ≤ len ∧ i = .int .i64 k ∧ Hid (wr.ownsRow w.heap.size 56 2 out (L.take k).length ((L.take k).flatMap shv) ∧ Kep w.heap.size w wr)) (fun _ i _ => len - (RowKit.intOf i).toNat)
  case atStart => exact ⟨0, by omega, rfl, Lib.hid ⟨World.ownsRow_nil _ _ _ _, Kep.refl _ _⟩⟩
  case round =>
    obtain ⟨k, hk, rfl, HP⟩ := hrel
    by_cases hlt : k < len
    · have hb : L[k]? = some (L[k]'(by rw [HN.out]; exact hlt)) := List.getElem?_eq_getElem _
      generalize L[k]'(by rw [HN.out]; exact hlt) = x at hb
      obtain ⟨gl, off, rfl, qx⟩ := HC.out k x hb
      have gg := HP.out.2
      have HO := Lib.hid HP.out.1
      have HT := Lib.hid (show L.take (k + 1) = L.take k ++ [x] by rw [List.take_add_one, hb]; rfl)
      have hgl : gl < w.heap.size := World.block_lt_of_cell? _ _ (qx 0 _ rfl)
      have s0 : wr.cell? ⟨gl, off + k * 2, none⟩ = some (.int .i64 x.1) := gg.all (qx 0 _ rfl)
      have t0 : wr.cell? ⟨gl, off + k * 2 + 1, none⟩ = some (.int .i64 x.2) := gg.all (qx 1 _ rfl)
      have gg0 := gg.size
      have hln := HLN.out k hk
      clear hb qx HP
      go_wp2_with fail
      refine wp_region_noPanic ?_
      refine wp_region_held_drew (S := (fun w' => w'.cell? ⟨gl, off + k * 2, none⟩ = some (.int .i64 x.1) ∧ w'.cell? ⟨gl, off + k * 2 + 1, none⟩ = some (.int .i64 x.2) ∧ Kep w.heap.size w w')) (by kernel_rfl) (⟨by rw [World.cell?_drew]; exact s0, by rw [World.cell?_drew]; exact t0, kep_drew gg⟩) (fun hH => ?_)
      refine rtk 0 (oi := ⟨some 11, .move (.tmp 3), _, _, _, none⟩) (v := ?_) rfl ?_ hH ?_
      rotate_left
      · (intro w hSw; (try dsimp only at hSw); go_simp; (try with_reducible rfl))
      refine rtk 1 (oi := ⟨some 12, .move (.tmp 0), _, _, _, none⟩) (v := ?_) rfl ?_ hH ?_
      rotate_left
      · (intro w hSw; (try dsimp only at hSw); go_simp; (try with_reducible rfl))
      refine rtk 2 (oi := ⟨some 13, .move (.tmp 4), _, _, _, none⟩) (v := ?_) rfl ?_ hH ?_
      rotate_left
      · (intro w hSw; (try dsimp only at hSw); go_simp; (try with_reducible rfl))
      refine rtk 3 (oi := ⟨some 14, .indexAddr 44 (.tmp 12) (.tmp 13), _, _, _, none⟩) (v := ?_) rfl ?_ hH ?_
      rotate_left
      · (intro w hSw; (try dsimp only at hSw); go_simp; (try with_reducible rfl))
      try simp only [Act.put, List.setIfInBounds_toArray, List.set_cons_zero, List.set_cons_succ]
      refine rtk 4 (oi := ⟨some 15, .fieldAddr 50 (.tmp 14) 0, _, _, _, none⟩) (v := ?_) rfl ?_ hH ?_
      rotate_left
      · (intro w hSw; (try dsimp only at hSw); go_simp; (try with_reducible rfl))
      refine rtk 5 (oi := ⟨some 16, .load 2 (.tmp 15), _, _, _, none⟩) (v := ?_) rfl ?_ hH ?_
      rotate_left
      · (intro w hSw; (try dsimp only at hSw); go_simp; (try with_reducible rfl))
      refine rtk 6 (oi := ⟨some 17, .move (.tmp 0), _, _, _, none⟩) (v := ?_) rfl ?_ hH ?_
      rotate_left
      · (intro w hSw; (try dsimp only at hSw); go_simp; (try with_reducible rfl))
      refine rtk 7 (oi := ⟨some 18, .move (.tmp 4), _, _, _, none⟩) (v := ?_) rfl ?_ hH ?_
      rotate_left
      · (intro w hSw; (try dsimp only at hSw); go_simp; (try with_reducible rfl))
      try simp only [Act.put, List.setIfInBounds_toArray, List.set_cons_zero, List.set_cons_succ]
      refine rtk 8 (oi := ⟨some 19, .indexAddr 44 (.tmp 17) (.tmp 18), _, _, _, none⟩) (v := ?_) rfl ?_ hH ?_
      rotate_left
      · (intro w hSw; (try dsimp only at hSw); go_simp; (try with_reducible rfl))
      refine rtk 9 (oi := ⟨some 20, .fieldAddr 50 (.tmp 19) 1, _, _, _, none⟩) (v := ?_) rfl ?_ hH ?_
      rotate_left
      · (intro w hSw; (try dsimp only at hSw); go_simp; (try with_reducible rfl))
      refine rtk 10 (oi := ⟨some 21, .load 2 (.tmp 20), _, _, _, none⟩) (v := ?_) rfl ?_ hH ?_
      rotate_left
      · (intro w hSw; (try dsimp only at hSw); go_simp; (try with_reducible rfl))
      refine rtk 11 (oi := ⟨some 22, .build 56 #[(0, .tmp 16), (1, .tmp 21)], _, _, _, none⟩) (v := ?_) rfl ?_ hH ?_
      rotate_left
      · (intro w hSw; (try dsimp only at hSw); go_simp; (try with_reducible rfl))
      try simp only [Act.put, List.setIfInBounds_toArray, List.set_cons_zero, List.set_cons_succ]
      refine wpAnyH_ready (rs := [12]) (by kernel_rfl) (by simp) ?_
      refine AllReadyH.cons (o := ⟨some 23, .buildSlice 42 1 #[(0, .tmp 22)], _, _, _, none⟩) rfl (fun K hK => ?_) AllReadyH.nil
      go_simp
      refine hK.out _ _ (by (try dsimp only); (go_split_ands; exact ⟨Kep.all (kep_more (Kep.refl _ _) _) (by assumption), Kep.all (kep_more (Kep.refl _ _) _) (by assumption), kep_more (by assumption) _⟩)) (fun hH2 => ?_)
      clear hK K hH; have hH := hH2; clear hH2
      try simp only [Act.put, List.setIfInBounds_toArray, List.set_cons_zero, List.set_cons_succ]
      refine wpAnyH_ready (rs := [13]) (by kernel_rfl) (by simp) ?_
      refine AllReadyH.cons (o := ⟨some 24, .call { callee := .builtin Builtin.append, args := #[.tmp 11, .tmp 23], argTypes := #[42, 42] }, _, _, _, none⟩) rfl (fun K hK => ?_) AllReadyH.nil
      refine step_app shv 2 shv_len shv_one (by rfl) _ _ 42 (by rfl) 56 _ 16 Try.underlying42 info_shift rfl (by decide) w.heap.size _ _ (L.take k) x (by rfl) (World.ownsRow.drew HO.out) _ (by first | rfl | simp) (by rfl) _ (by rfl) (by rw [hln]; unfold maxLen; omega) (by rw [hln]; omega) gg0 ?_
      intro v3 w3 o3 k3
      refine hK.out _ _ (by (try dsimp only); (go_split_ands; exact ⟨Kep.holds k3 hgl (by assumption), Kep.holds k3 hgl (by assumption), Kep.trans (by assumption) k3⟩)) (fun hH2 => ?_)
      clear hK K hH; have hH := hH2; clear hH2
      refine rtk 14 (oi := ⟨some 3, .assign (.tmp 24), _, _, _, none⟩) (v := ?_) rfl ?_ hH ?_
      rotate_left
      · (intro w hSw; (try dsimp only at hSw); go_simp; (try with_reducible rfl))
      try simp only [Act.put, List.setIfInBounds_toArray, List.set_cons_zero, List.set_cons_succ]
      refine wpAnyH_done (by kernel_rfl) ?_ _
      refine NoPanic.normal ?_
      clear s0 t0 gg
      obtain ⟨s0, t0, gg⟩ := hH
      go_wp2_with fail
      have HM : Hid (w3.ownsRow w.heap.size 56 2 v3 (L.take (k + 1)).length ((L.take (k + 1)).flatMap shv) ∧ Kep w.heap.size w w3) := Lib.hid ⟨by rw [HT.out]; exact o3, gg⟩
      clear o3
      go_roundw
      case rel => exact ⟨k + 1, by omega, by go_num, HM⟩
      case measure => simp [RowKit.intOf]; omega
    · obtain rfl : k = len := by omega
      obtain ⟨h1, h2⟩ := HP.out
      rw [List.take_of_length_le (by rw [HN.out]; omega)] at h1
      have H1 := Lib.hid (own_sq shv_len h1)
      clear h1 HP
      go_wp2_with fail
      go_ret
      exact ⟨_, rfl, H1.out, h2⟩
end Go.Proofs.Ytlbbacmpdlghaaa
