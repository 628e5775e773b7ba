/-
  Package integrate: the reference's Gravity.
-/
import Derived.Test.YtlabeelbbkbkaaaIntMath
import Derived.Test.YtlabeelbbkbkaaaJ05BoxMath
import Derived.Test.YtlabeelbbkbkaaaStoreFind
import Derived.Test.YtlabeelbbkbkaaaJ01FxRef
import Derived.Test.YtlabeelbbkbkaaaJ06ViewMath
import Derived.Test.YtlabeelbbkbkaaaJ03StorePut
import Derived.Deep.DeepCutAuto
import Derived.Deep.QuietTactic
import Derived.BigQuiet
namespace Go.Proofs.Ytlabeelbbkbkaaa
open Go.RowKit Go.Lib

abbrev RGv (L : List Bd) : Prop := ∀ v w, Lst w v L → Calls Try.prog 12 #[v] w fun e w' => ∃ v', e = .returned (.tuple #[v', .bool (L.any grvC)]) ∧ Lst w' v' (L.map grvB) ∧ Kep w.heap.size w w'
theorem any_takeB {t : Bd → Bool} {L : List Bd} {k : Nat} {x : Bd} (h : L[k]? = some x) : (L.take (k + 1)).any t = ((L.take k).any t || t x) := by
  rw [List.take_add_one, h]
  simp
set_option maxRecDepth 100000 in
set_option maxHeartbeats 8000000 in
theorem rig (L : List Bd) (hm : L.length ≤ 1000) (HV : Hid (∀ x ∈ L, Vb x)) : RGv L := fun v w h => by
  have HL := Lib.hid h
  obtain ⟨ba, ca, rfl⟩ := h.shape
  have HLA := Lib.hid (fun (k : Nat) (y : Bd) (hy : L[k]? = some y) => h.at_ hy)
  have HLN := Lib.hid (fun (k : Nat) (hk : k ≤ L.length) => (show ((L.take k).map grvB).length = k by rw [List.length_map, List.length_take]; omega))
  clear h
  generalize hnl : L.length = nl at *
  have HN := Lib.hid hnl
  clear hnl
  go_enter Try.func12, Try.ntmps12
  go_wp2_with fail
  go_loopw [4, 5, 6] (fun out cl i wr => ∃ k : Nat, k ≤ nl ∧ i = .int .i64 k ∧ (∃ z : Bool, cl = .bool z ∧ Hid ((L.take k).any grvC = z)) ∧ Hid (wr.ownsRow w.heap.size 37 10 out ((L.take k).map grvB).length (((L.take k).map grvB).flatMap vals) ∧ Kep w.heap.size w wr)) (fun _ _ i _ => nl - (RowKit.intOf i).toNat)
  case atStart => exact ⟨0, by omega, rfl, ⟨false, rfl, Lib.hid (by simp)⟩, Lib.hid ⟨World.ownsRow_nil _ _ _ _, Kep.refl _ _⟩⟩
  case round =>
    obtain ⟨k, hk, rfl, ⟨z, rfl, HZ⟩, HP⟩ := hrel
    by_cases hlt : k < nl
    · have hb : L[k]? = some (L[k]'(by rw [HN.out]; exact hlt)) := List.getElem?_eq_getElem _
      generalize L[k]'(by rw [HN.out]; exact hlt) = x at hb
      have gg := HP.out.2
      have HO := Lib.hid HP.out.1
      obtain ⟨gl, off, rfl, qx⟩ := HLA.out k x hb
      have hv := HV.out x (List.mem_of_getElem? hb)
      have hln := HLN.out k hk
      have HTA : Hid ((L.take (k + 1)).map grvB = (L.take k).map grvB ++ [grvB x]) := Lib.hid (by rw [List.take_add_one, hb, List.map_append]; rfl)
      have HTB0 : Hid ((L.take (k + 1)).any grvC = (z || grvC x)) := Lib.hid (by rw [any_takeB hb, HZ.out])
      have s0 : wr.cell? ⟨gl, off + k * 10, none⟩ = some (.int .u32 x.k) := gg.all (qx 0 (by decide))
      have s1 : wr.cell? ⟨gl, off + k * 10 + 1, none⟩ = some (.int .i32 x.r) := gg.all (qx 1 (by decide))
      have s2 : wr.cell? ⟨gl, off + k * 10 + 2, none⟩ = some (.int .i32 x.ax) := gg.all (qx 2 (by decide))
      have s3 : wr.cell? ⟨gl, off + k * 10 + 3, none⟩ = some (.int .i32 x.ay) := gg.all (qx 3 (by decide))
      have s4 : wr.cell? ⟨gl, off + k * 10 + 4, none⟩ = some (.int .i32 x.m) := gg.all (qx 4 (by decide))
      have s5 : wr.cell? ⟨gl, off + k * 10 + 5, none⟩ = some (.int .i32 x.o) := gg.all (qx 5 (by decide))
      have s6 : wr.cell? ⟨gl, off + k * 10 + 6, none⟩ = some (.int .i32 x.px) := gg.all (qx 6 (by decide))
      have s7 : wr.cell? ⟨gl, off + k * 10 + 7, none⟩ = some (.int .i32 x.py) := gg.all (qx 7 (by decide))
      have s8 : wr.cell? ⟨gl, off + k * 10 + 8, none⟩ = some (.int .i32 x.vx) := gg.all (qx 8 (by decide))
      have s9 : wr.cell? ⟨gl, off + k * 10 + 9, none⟩ = some (.int .i32 x.vy) := gg.all (qx 9 (by decide))
      by_cases hm0 : 0 < x.m
      · have d0 : decide (0 < x.m) = true := decide_eq_true hm0
        obtain ⟨ey, hey⟩ : ∃ t, t = grvY x := ⟨_, rfl⟩
        obtain ⟨ly, hly⟩ : ∃ t, t = limJ ey := ⟨_, rfl⟩
        have bl := limJ_bd ey
        have be := grvY_bd hv
        rw [← hly] at bl
        rw [← hey] at be
        have v2 := hv.vy0
        have v3 := hv.vy1
        have LY := Lib.hid (fun w => (show Calls Try.prog 27 #[.int .i64 ey, .int .i64 16777216] w fun e w' => e = .returned (.int .i64 ly) ∧ w = w' by rw [hly]; exact reflim_any ey 16777216 (by unfold I64; omega) (by decide) (by decide) w))
        have f1 : IntKind.i64.wrap x.vy = x.vy := by rw [IntKind.wrap_i64]; omega
        have f2 : IntKind.i64.wrap (x.vy - 1024) = ey := by rw [IntKind.wrap_i64, hey]; unfold grvY; omega
        have f3 : wrap64 (x.vy - 1024) = ey := by rw [hey]; unfold grvY wrap64; omega
        have f5 : IntKind.i32.wrap ly = ly := by rw [IntKind.wrap_i32]; omega
        have f7 : IntKind.i64.wrap ly = ly := by rw [IntKind.wrap_i64]; omega
        have f9 : wrap32 ly = ly := by unfold wrap32; omega
        have HTB : Hid ((L.take (k + 1)).map grvB = (L.take k).map grvB ++ [velB x x.vx ly]) := Lib.hid (by rw [HTA.out, hly, hey]; unfold grvB; rw [if_pos hm0])
        obtain ⟨zy, hzy⟩ : ∃ z, (ly != ey) = z := ⟨_, rfl⟩
        have HTZ : Hid ((L.take (k + 1)).any grvC = (z || zy)) := Lib.hid (by
          rw [HTB0.out]
          congr 1
          unfold grvC
          rw [← hey, ← hly, d0, Bool.true_and, ← hzy, Bool.eq_iff_iff, decide_eq_true_iff, bne_iff_ne])
        clear hb hey hly bl be v2 v3 hv qx HP hm0 HTA HTB0
        go_upto_region 10 with ((with_reducible refine (LY.out _).mono ?_); rintro e w9 ⟨rfl, rfl⟩)
        cases z with
        | true =>
          go_wp2_with (first
            | (at_builtin; refine wpList_app vals 10 vals_lenK vals_oneK rfl _ _ 22 rfl 37 _ 40 Try.underlying22 info_body rfl (by decide) w.heap.size _ _ ((L.take k).map grvB) (velB x x.vx ly) rfl (World.ownsRow.alloc HO.out _) _ (by first | rfl | simp) rfl _ rfl (by rw [hln]; unfold maxLen; omega) (by rw [hln]; omega) (kep_more gg _).size ?_; intro v3 w3 o3 k3))
          have HM : Hid (w3.ownsRow w.heap.size 37 10 v3 ((L.take (k + 1)).map grvB).length (((L.take (k + 1)).map grvB).flatMap vals) ∧ Kep w.heap.size w w3) := Lib.hid ⟨by rw [HTB.out]; exact o3, (kep_more gg _).trans k3⟩
          clear o3 k3 hln
          go_roundw
          case rel => exact ⟨k + 1, by omega, by go_num, ⟨true, rfl, Lib.hid (by rw [HTZ.out]; simp)⟩, HM⟩
          case measure => simp [RowKit.intOf]; omega
        | false =>
          go_wp2_with (first
            | (at_builtin; refine wpList_app vals 10 vals_lenK vals_oneK rfl _ _ 22 rfl 37 _ 40 Try.underlying22 info_body rfl (by decide) w.heap.size _ _ ((L.take k).map grvB) (velB x x.vx ly) rfl (World.ownsRow.alloc HO.out _) _ (by first | rfl | simp) rfl _ rfl (by rw [hln]; unfold maxLen; omega) (by rw [hln]; omega) (kep_more gg _).size ?_; intro v3 w3 o3 k3))
          have HM : Hid (w3.ownsRow w.heap.size 37 10 v3 ((L.take (k + 1)).map grvB).length (((L.take (k + 1)).map grvB).flatMap vals) ∧ Kep w.heap.size w w3) := Lib.hid ⟨by rw [HTB.out]; exact o3, (kep_more gg _).trans k3⟩
          clear o3 k3 hln
          go_roundw
          case rel => exact ⟨k + 1, by omega, by go_num, ⟨zy, rfl, Lib.hid (by rw [HTZ.out]; simp)⟩, HM⟩
          case measure => simp [RowKit.intOf]; omega
      · have d0 : decide (0 < x.m) = false := decide_eq_false hm0
        have HTB : Hid ((L.take (k + 1)).map grvB = (L.take k).map grvB ++ [x]) := Lib.hid (by rw [HTA.out]; unfold grvB; rw [if_neg hm0])
        have HTZ : Hid ((L.take (k + 1)).any grvC = z) := Lib.hid (by
          rw [HTB0.out]
          unfold grvC
          rw [d0, Bool.false_and, Bool.or_false])
        clear hb hv qx HP hm0 HTA HTB0
        go_wp2_with (first
          | (at_builtin; refine wpList_app vals 10 vals_lenK vals_oneK rfl _ _ 22 rfl 37 _ 40 Try.underlying22 info_body rfl (by decide) w.heap.size _ _ ((L.take k).map grvB) x rfl (World.ownsRow.alloc HO.out _) _ (by first | rfl | simp) rfl _ rfl (by rw [hln]; unfold maxLen; omega) (by rw [hln]; omega) (kep_more gg _).size ?_; intro v3 w3 o3 k3))
        have HM : Hid (w3.ownsRow w.heap.size 37 10 v3 ((L.take (k + 1)).map grvB).length (((L.take (k + 1)).map grvB).flatMap vals) ∧ Kep w.heap.size w w3) := Lib.hid ⟨by rw [HTB.out]; exact o3, (kep_more gg _).trans k3⟩
        clear o3 k3 hln
        go_roundw
        case rel => exact ⟨k + 1, by omega, by go_num, ⟨z, rfl, HTZ⟩, HM⟩
        case measure => simp [RowKit.intOf]; omega
    · obtain rfl : k = nl := by omega
      obtain ⟨h1, h2⟩ := HP.out
      have et : L.take k = L := List.take_of_length_le (by rw [HN.out]; omega)
      rw [et] at h1 HZ
      have H1 := Lib.hid (own_lst h1)
      have HC9 : Hid (z = L.any grvC) := Lib.hid HZ.out.symm
      clear h1 HP et HZ
      go_wp2_with fail
      go_ret2
      exact ⟨_, by rw [← HC9.out]; rfl, H1.out, h2⟩
abbrev RSin (s : Sh) (z : Bool) : Prop := ∀ w, Calls Try.prog 22 #[.agg #[.int .i64 s.1, .int .i64 s.2]] w fun e w' => e = .returned (.bool z) ∧ Kep w.heap.size w w'
set_option maxRecDepth 100000 in
set_option maxHeartbeats 1000000 in
theorem rsin0 {a b : Int} (h0 : decide (-4611686018427387904 ≤ a) = false) : RSin (a, b) false := fun w => by
  go_enter Try.func22, Try.ntmps22
  go_wp2_with fail
  go_ret
  exact ⟨rfl, (kep_more (Kep.refl _ _) _)⟩
set_option maxRecDepth 100000 in
set_option maxHeartbeats 1000000 in
theorem rsin1 {a b : Int} (h0 : decide (-4611686018427387904 ≤ a) = true) (h1 : decide (a ≤ 4611686018427387904) = false) : RSin (a, b) false := fun w => by
  go_enter Try.func22, Try.ntmps22
  go_wp2_with fail
  go_ret
  exact ⟨rfl, (kep_more (Kep.refl _ _) _)⟩
set_option maxRecDepth 100000 in
set_option maxHeartbeats 1000000 in
theorem rsin2 {a b : Int} (h0 : decide (-4611686018427387904 ≤ a) = true) (h1 : decide (a ≤ 4611686018427387904) = true) (h2 : decide (-4611686018427387904 ≤ b) = false) : RSin (a, b) false := fun w => by
  go_enter Try.func22, Try.ntmps22
  go_wp2_with fail
  go_ret
  exact ⟨rfl, (kep_more (Kep.refl _ _) _)⟩
set_option maxRecDepth 100000 in
set_option maxHeartbeats 1000000 in
theorem rsin3 {a b : Int} (h0 : decide (-4611686018427387904 ≤ a) = true) (h1 : decide (a ≤ 4611686018427387904) = true) (h2 : decide (-4611686018427387904 ≤ b) = true) (h3 : decide (b ≤ 4611686018427387904) = false) : RSin (a, b) false := fun w => by
  go_enter Try.func22, Try.ntmps22
  go_wp2_with fail
  go_ret
  exact ⟨rfl, (kep_more (Kep.refl _ _) _)⟩
set_option maxRecDepth 100000 in
set_option maxHeartbeats 1000000 in
theorem rsin4 {a b : Int} (h0 : decide (-4611686018427387904 ≤ a) = true) (h1 : decide (a ≤ 4611686018427387904) = true) (h2 : decide (-4611686018427387904 ≤ b) = true) (h3 : decide (b ≤ 4611686018427387904) = true) : RSin (a, b) true := fun w => by
  go_enter Try.func22, Try.ntmps22
  go_wp2_with fail
  go_ret
  exact ⟨rfl, (kep_more (Kep.refl _ _) _)⟩
theorem rsin (s : Sh) : RSin s (decide (Sin s)) := by
  obtain ⟨a, b⟩ := s
  by_cases c0 : -4611686018427387904 ≤ a
  · by_cases c1 : a ≤ 4611686018427387904
    · by_cases c2 : -4611686018427387904 ≤ b
      · by_cases c3 : b ≤ 4611686018427387904
        · rw [decide_eq_true (show Sin (a, b) from ⟨⟨c0, c1⟩, c2, c3⟩)]
          exact rsin4 (decide_eq_true c0) (decide_eq_true c1) (decide_eq_true c2) (decide_eq_true c3)
        · rw [decide_eq_false (show ¬ Sin (a, b) from fun h => c3 h.2.2)]
          exact rsin3 (decide_eq_true c0) (decide_eq_true c1) (decide_eq_true c2) (decide_eq_false c3)
      · rw [decide_eq_false (show ¬ Sin (a, b) from fun h => c2 h.2.1)]
        exact rsin2 (decide_eq_true c0) (decide_eq_true c1) (decide_eq_false c2)
    · rw [decide_eq_false (show ¬ Sin (a, b) from fun h => c1 h.1.2)]
      exact rsin1 (decide_eq_true c0) (decide_eq_false c1)
  · rw [decide_eq_false (show ¬ Sin (a, b) from fun h => c0 h.1.1)]
    exact rsin0 (decide_eq_false c0)
end Go.Proofs.Ytlabeelbbkbkaaa
