/-
  Package integrate: the laws' own functions: fit, forward, moved.
-/
import Derived.Test.YtlabeelbbkbkaaaIntCon
import Derived.Test.YtlabeelbbkbkaaaJ06ViewMath
import Derived.Test.YtlabeelbbkbkaaaJ03StorePut
import Derived.Deep.DeepCutAuto
import Derived.Deep.QuietTactic
import Derived.BigQuiet
namespace Go.Proofs.Ytlabeelbbkbkaaa
open Go.RowKit Go.Lib

theorem info_shR : (Try.prog.info? 43).map (fun i => (i.zero, i.size, i.bytes)) = some (some (.agg #[.int .i64 0, .int .i64 0]), 2, 16) := by kernel_rfl
theorem info_shP : (Try.prog.info? 50).map (fun i => (i.zero, i.size, i.bytes)) = some (some (.agg #[.int .i64 0, .int .i64 0]), 2, 16) := by kernel_rfl
/-- Shifts of the number of bodies. -/
def fitS (S : List Sh) (i : Nat) : Sh := match S[i]? with
  | some s => if Sin s then s else (0, 0)
  | none => (0, 0)
def fitL (S : List Sh) (n : Nat) : List Sh := (List.range n).map (fitS S)
theorem fitS_in (S : List Sh) (i : Nat) : Sin (fitS S i) := by
  unfold fitS
  split
  · split
    · assumption
    · exact ⟨⟨by decide, by decide⟩, by decide, by decide⟩
  · exact ⟨⟨by decide, by decide⟩, by decide, by decide⟩
theorem fitL_len (S : List Sh) (n : Nat) : (fitL S n).length = n := by unfold fitL; rw [List.length_map, List.length_range]
theorem fitL_in (S : List Sh) (n : Nat) : ∀ y ∈ fitL S n, Sin y := fun y hy => by
  obtain ⟨i, _, rfl⟩ := List.mem_map.1 hy
  exact fitS_in S i
theorem fitL_next (S : List Sh) (n : Nat) : fitL S (n + 1) = fitL S n ++ [fitS S n] := by
  unfold fitL
  rw [List.range_succ, List.map_append]
  rfl
set_option maxRecDepth 100000 in
set_option maxHeartbeats 4000000 in
theorem lfit (S : List Sh) (n : Nat) (hn : n ≤ 1000) (v : Value) (w : World) (h : Sq shv 2 w v S) : Calls Try.prog 10 #[v, .int .i64 n] w fun e w' => ∃ v', e = .returned v' ∧ Sq shv 2 w' v' (fitL S n) ∧ Kep w.heap.size w w' := by
  obtain ⟨base, cap, rfl, hc⟩ := h
  have HC := Lib.hid hc
  clear hc
  generalize hm : S.length = m at *
  have HM0 := Lib.hid hm
  clear hm
  go_enter Try.func10, Try.ntmps10
  go_wp2_with fail
  go_loopw [5, 6] (fun out i wr => ∃ k : Nat, k ≤ n ∧ i = .int .i64 k ∧ Hid (wr.ownsRow w.heap.size 43 2 out (fitL S k).length ((fitL S k).flatMap shv) ∧ Kep w.heap.size w wr)) (fun _ i _ => n - (RowKit.intOf i).toNat)
  case atStart => exact ⟨0, by omega, rfl, Lib.hid ⟨World.ownsRow_nil _ _ _ _, Kep.refl _ _⟩⟩
  case round =>
    obtain ⟨k, hk, rfl, HP⟩ := hrel
    by_cases hlt : k < n
    · have gg := HP.out.2
      have HO := Lib.hid HP.out.1
      have hln := fitL_len S k
      have HT0 := Lib.hid (fitL_next S k)
      have k0 : (0 : Int) ≤ (k : Int) := Int.natCast_nonneg _
      clear HP
      by_cases hkm : k < m
      · have hb : S[k]? = some (S[k]'(by rw [HM0.out]; exact hkm)) := List.getElem?_eq_getElem _
        generalize S[k]'(by rw [HM0.out]; exact hkm) = s at hb
        obtain ⟨gs, os, rfl, q⟩ := HC.out k s hb
        have hfs : fitS S k = if Sin s then s else (0, 0) := by unfold fitS; rw [hb]
        rw [hfs] at HT0
        have IN := Lib.hid (rsin s)
        have t0 : wr.cell? ⟨gs, os + k * 2, none⟩ = some (.int .i64 s.1) := gg.all (q 0 _ rfl)
        have t1 : wr.cell? ⟨gs, os + k * 2 + 1, none⟩ = some (.int .i64 s.2) := gg.all (q 1 _ rfl)
        have k1 : (k : Int) < (m : Int) := by omega
        have k2 : decide ((k : Int) < (m : Int)) = true := decide_eq_true k1
        have hgs : gs < wr.heap.size := World.block_lt_of_cell? _ _ t0
        clear hb q hfs
        by_cases hz : Sin s
        · rw [decide_eq_true hz] at IN
          rw [if_pos hz] at HT0
          have HT : Hid (fitL S (k + 1) = fitL S k ++ [s]) := HT0
          obtain ⟨t, rfl⟩ : ∃ t, t = s := ⟨_, rfl⟩
          go_upto_region 7 with ((with_reducible refine (IN.out _).mono ?_); rintro e w2 ⟨rfl, g2⟩; have Zs : ZC w2 wr.heap.size [.int .i64 0, .int .i64 0] := (zc_new' _ _ _ (by first | rfl | simp)).kep g2; have gk := kep_next (kep_more (Kep.refl wr.heap.size wr) _) g2)
          replace t0 := gk.all t0
          replace t1 := gk.all t1
          have z0 := Zs.i (i := 0) rfl
          have z1 := Zs.i (i := 1) rfl
          have y0 := Zs.frz 0
          have y1 := Zs.frz 1
          have zl := Zs.lt
          go_upto_region 8 with fail
          generalize hW : World.setCell _ _ _ = W3
          have Z3 : ZC W3 wr.heap.size [.int .i64 t.1, .int .i64 t.2] := by rw [← hW]; exact (Zs.put (.int .i64 t.1) (i := 0) (by simp)).put (.int .i64 t.2) (i := 1) (by simp)
          have kk : Kep wr.heap.size wr W3 := by rw [← hW]; exact (gk.setCell (Nat.le_refl _) _).setCell (Nat.le_refl _) _
          replace HO := Lib.hid (own_kep HO.out kk (Nat.le_refl _))
          replace gg := kep_next gg kk
          clear hW t0 t1 z0 z1 y0 y1 zl Zs gk kk hz
          have z0 := Z3.i (i := 0) rfl
          have z1 := Z3.i (i := 1) rfl
          have zl := Z3.lt
          clear Z3
          go_wp2_with (first
            | (at_builtin; refine wpList_app shv 2 shv_len shv_one rfl _ _ 23 rfl 43 _ 16 Try.underlying23 info_shR rfl (by decide) w.heap.size _ _ (fitL S k) t rfl HO.out _ (by first | rfl | simp) rfl _ rfl (by rw [hln]; unfold maxLen; omega) (by rw [hln]; omega) gg.size ?_; intro v4 w4 o4 k4))
          have HM : Hid (w4.ownsRow w.heap.size 43 2 v4 (fitL S (k + 1)).length ((fitL S (k + 1)).flatMap shv) ∧ Kep w.heap.size w w4) := Lib.hid ⟨by rw [HT.out]; exact o4, gg.trans k4⟩
          clear o4 k4 hln
          go_roundw
          case rel => exact ⟨k + 1, by omega, by go_num, HM⟩
          case measure => simp [RowKit.intOf]; omega
        · rw [decide_eq_false hz] at IN
          rw [if_neg hz] at HT0
          obtain ⟨t, ht⟩ : ∃ t : Sh, t = (0, 0) := ⟨_, rfl⟩
          have HT : Hid (fitL S (k + 1) = fitL S k ++ [t]) := Lib.hid (by rw [ht]; exact HT0.out)
          subst ht
          go_upto_region 8 with ((with_reducible refine (IN.out _).mono ?_); rintro e w2 ⟨rfl, g2⟩; have Zs : ZC w2 wr.heap.size [.int .i64 0, .int .i64 0] := (zc_new' _ _ _ (by first | rfl | simp)).kep g2; have gk := kep_next (kep_more (Kep.refl wr.heap.size wr) _) g2)
          replace HO := Lib.hid (own_kep HO.out gk (Nat.le_refl _))
          replace gg := kep_next gg gk
          have z0 := Zs.i (i := 0) rfl
          have z1 := Zs.i (i := 1) rfl
          have zl := Zs.lt
          clear t0 t1 Zs gk hz
          go_wp2_with (first
            | (at_builtin; refine wpList_app shv 2 shv_len shv_one rfl _ _ 23 rfl 43 _ 16 Try.underlying23 info_shR rfl (by decide) w.heap.size _ _ (fitL S k) (0, 0) rfl HO.out _ (by first | rfl | simp) rfl _ rfl (by rw [hln]; unfold maxLen; omega) (by rw [hln]; omega) gg.size ?_; intro v4 w4 o4 k4))
          have HM : Hid (w4.ownsRow w.heap.size 43 2 v4 (fitL S (k + 1)).length ((fitL S (k + 1)).flatMap shv) ∧ Kep w.heap.size w w4) := Lib.hid ⟨by rw [HT.out]; exact o4, gg.trans k4⟩
          clear o4 k4 hln
          go_roundw
          case rel => exact ⟨k + 1, by omega, by go_num, HM⟩
          case measure => simp [RowKit.intOf]; omega
      · have hfs : fitS S k = (0, 0) := by unfold fitS; rw [List.getElem?_eq_none (by rw [HM0.out]; omega)]
        rw [hfs] at HT0
        have HT : Hid (fitL S (k + 1) = fitL S k ++ [(0, 0)]) := HT0
        have k2 : decide ((k : Int) < (m : Int)) = false := decide_eq_false (by omega)
        have k1 : ¬ (k : Int) < (m : Int) := by omega
        clear hfs
        go_wp2_with (first
          | (at_builtin; refine wpList_app shv 2 shv_len shv_one rfl _ _ 23 rfl 43 _ 16 Try.underlying23 info_shR rfl (by decide) w.heap.size _ _ (fitL S k) (0, 0) rfl (World.ownsRow.alloc HO.out _) _ (by first | rfl | simp) rfl _ rfl (by rw [hln]; unfold maxLen; omega) (by rw [hln]; omega) (kep_more gg _).size ?_; intro v4 w4 o4 k4))
        have HM : Hid (w4.ownsRow w.heap.size 43 2 v4 (fitL S (k + 1)).length ((fitL S (k + 1)).flatMap shv) ∧ Kep w.heap.size w w4) := Lib.hid ⟨by rw [HT.out]; exact o4, (kep_more gg _).trans k4⟩
        clear o4 k4 hln
        go_roundw
        case rel => exact ⟨k + 1, by omega, by go_num, HM⟩
        case measure => simp [RowKit.intOf]; omega
    · obtain rfl : k = n := by omega
      obtain ⟨h1, h2⟩ := HP.out
      have H1 := Lib.hid (own_sq shv_len h1)
      clear h1 HP
      go_wp2_with fail
      go_ret
      exact ⟨_, rfl, H1.out, h2⟩
set_option maxRecDepth 100000 in
set_option maxHeartbeats 4000000 in
theorem lfwd (L : List Sh) (hm : L.length ≤ 100000) (v : Value) (w : World) (h : Sq shv 2 w v L) : Calls Try.prog 14 #[v] w fun e w' => ∃ v', e = .returned v' ∧ Sq shv 2 w' v' L ∧ Kep w.heap.size w w' := by
  obtain ⟨base, cap, rfl, hc⟩ := h
  have HC := Lib.hid hc
  have HLN := Lib.hid (fun (k : Nat) (hk : k ≤ L.length) => (show (L.take k).length = k by rw [List.length_take]; omega))
  clear hc
  generalize hl : L.length = len at *
  have HN := Lib.hid hl
  clear hl
  go_enter Try.func14, Try.ntmps14
  go_wp2_with fail
  go_loopw [3, 4] (fun out i wr => ∃ k : Nat, k ≤ len ∧ i = .int .i64 k ∧ Hid (wr.ownsRow w.heap.size 50 2 out (L.take k).length ((L.take k).flatMap shv) ∧ Kep w.heap.size w wr)) (fun _ i _ => len - (RowKit.intOf i).toNat)
  case atStart => exact ⟨0, by omega, rfl, Lib.hid ⟨World.ownsRow_nil _ _ _ _, Kep.refl _ _⟩⟩
  case round =>
    obtain ⟨k, hk, rfl, HP⟩ := hrel
    by_cases hlt : k < len
    · have hb : L[k]? = some (L[k]'(by rw [HN.out]; exact hlt)) := List.getElem?_eq_getElem _
      generalize L[k]'(by rw [HN.out]; exact hlt) = x at hb
      obtain ⟨gl, off, rfl, qx⟩ := HC.out k x hb
      have gg := HP.out.2
      have HO := Lib.hid HP.out.1
      have HT := Lib.hid (show L.take (k + 1) = L.take k ++ [x] by rw [List.take_add_one, hb]; rfl)
      have hgl : gl < w.heap.size := World.block_lt_of_cell? _ _ (qx 0 _ rfl)
      have s0 : wr.cell? ⟨gl, off + k * 2, none⟩ = some (.int .i64 x.1) := gg.all (qx 0 _ rfl)
      have t0 : wr.cell? ⟨gl, off + k * 2 + 1, none⟩ = some (.int .i64 x.2) := gg.all (qx 1 _ rfl)
      have gg0 := gg.size
      have hln := HLN.out k hk
      clear hb qx HP
      go_wp2_with fail
      refine wp_region_noPanic ?_
      refine wp_region_held_drew (S := (fun w' => w'.cell? ⟨gl, off + k * 2, none⟩ = some (.int .i64 x.1) ∧ w'.cell? ⟨gl, off + k * 2 + 1, none⟩ = some (.int .i64 x.2) ∧ Kep w.heap.size w w')) (by kernel_rfl) (⟨by rw [World.cell?_drew]; exact s0, by rw [World.cell?_drew]; exact t0, kep_drew gg⟩) (fun hH => ?_)
      refine sT 0 hH ?_
      refine sT 1 hH ?_
      refine sT 2 hH ?_
      refine sN 3 hH ?_
      refine sT 4 hH ?_
      refine sT 5 hH ?_
      refine sT 6 hH ?_
      refine sN 7 hH ?_
      refine sT 8 hH ?_
      refine sT 9 hH ?_
      refine sT 10 hH ?_
      refine sN 11 hH ?_
      refine sC 12 (fun K hK => ?_)
      go_simp
      refine hK.out _ _ (by (try dsimp only); (go_split_ands; exact ⟨Kep.all (kep_more (Kep.refl _ _) _) (by assumption), Kep.all (kep_more (Kep.refl _ _) _) (by assumption), kep_more (by assumption) _⟩)) (fun hH2 => ?_)
      clear hK K hH; have hH := hH2; clear hH2
      try simp only [Act.put, List.setIfInBounds_toArray, List.set_cons_zero, List.set_cons_succ]
      refine sC 13 (fun K hK => ?_)
      refine step_app shv 2 shv_len shv_one (by rfl) _ _ 31 (by rfl) 50 _ 16 Try.underlying31 info_shP rfl (by decide) w.heap.size _ _ (L.take k) x (by rfl) (World.ownsRow.drew HO.out) _ (by first | rfl | simp) (by rfl) _ (by rfl) (by rw [hln]; unfold maxLen; omega) (by rw [hln]; omega) gg0 ?_
      intro v3 w3 o3 k3
      refine hK.out _ _ (by (try dsimp only); (go_split_ands; exact ⟨Kep.holds k3 hgl (by assumption), Kep.holds k3 hgl (by assumption), Kep.trans (by assumption) k3⟩)) (fun hH2 => ?_)
      clear hK K hH; have hH := hH2; clear hH2
      refine sN 14 hH ?_
      refine sE ?_
      clear s0 t0 gg
      obtain ⟨s0, t0, gg⟩ := hH
      go_wp2_with fail
      have HM : Hid (w3.ownsRow w.heap.size 50 2 v3 (L.take (k + 1)).length ((L.take (k + 1)).flatMap shv) ∧ Kep w.heap.size w w3) := Lib.hid ⟨by rw [HT.out]; exact o3, gg⟩
      clear o3
      go_roundw
      case rel => exact ⟨k + 1, by omega, by go_num, HM⟩
      case measure => simp [RowKit.intOf]; omega
    · obtain rfl : k = len := by omega
      obtain ⟨h1, h2⟩ := HP.out
      rw [List.take_of_length_le (by rw [HN.out]; omega)] at h1
      have H1 := Lib.hid (own_sq shv_len h1)
      clear h1 HP
      go_wp2_with fail
      go_ret
      exact ⟨_, rfl, H1.out, h2⟩
end Go.Proofs.Ytlabeelbbkbkaaa
