import Derived.Test.YtaknmlohnifcdaaGreatDoorIntCon
import Derived.Test.YtaknmlohnifcdaaGreatDoorJ18ViewMath
import Derived.Test.YtaknmlohnifcdaaGreatDoorJ06StorePut
import Derived.Deep.DeepCutAuto
import Derived.Deep.QuietTactic
import Derived.BigQuiet
import Derived.Test.YtaknmlohnifcdaaGreatDoorJ02Seq

/-! J20IntMvd: IntMvd, StpMvd. -/

section
/-
  Package integrate: the laws' own function moved.
-/
namespace Go.Proofs.YtaknmlohnifcdaaGreatDoor
open Go.RowKit Go.Lib

/-- A body moved by a vector; whether it stays in the world. -/
def mvdB (a b : Int) (x : Bd) : Bd := plB x (x.px + a) (x.py + b)
def mvdO (a b : Int) (x : Bd) : Bool := decide ((-1073741824 ≤ x.px + a ∧ x.px + a ≤ 1073741824) ∧ (-1073741824 ≤ x.py + b ∧ x.py + b ≤ 1073741824))
theorem all_takeB {t : Bd → Bool} {L : List Bd} {k : Nat} {x : Bd} (h : L[k]? = some x) : (L.take (k + 1)).all t = ((L.take k).all t && t x) := by
  rw [List.take_add_one, h]
  simp
end Go.Proofs.YtaknmlohnifcdaaGreatDoor
end

section
/-
  Package step: the reference's Moved.
-/
namespace Go.Proofs.YtaknmlohnifcdaaGreatDoor
open Go.RowKit Go.Lib

/-- A view moved, if all bodies stay in the world. -/
def mvdN (a b : Int) (L : List Bd) : List Bd := if L.all (mvdO a b) = true then L.map (mvdB a b) else []
set_option maxRecDepth 100000 in
set_option maxHeartbeats 8000000 in
theorem rmvd (L : List Bd) (hm : L.length ≤ 1000) (HK : Hid (∀ x ∈ L, okI x)) {a b : Int} (ha : -2147483648 ≤ a ∧ a < 2147483648) (hb2 : -2147483648 ≤ b ∧ b < 2147483648) (v : Value) (w : World) (h : Lst w v L) : Calls Tryz.prog 15 #[v, .agg #[.int .i32 a, .int .i32 b]] w fun e w' => ∃ v', e = .returned (.tuple #[v', .bool (L.all (mvdO a b))]) ∧ Lst w' v' (mvdN a b L) ∧ Kep w.heap.size w w' := by
  have HL := Lib.hid h
  obtain ⟨ba, ca, rfl⟩ := h.shape
  have HLA := Lib.hid (fun (k : Nat) (y : Bd) (hy : L[k]? = some y) => h.at_ hy)
  have HLN := Lib.hid (fun (k : Nat) (hk : k ≤ L.length) => (show ((L.take k).map (mvdB a b)).length = k by rw [List.length_map, List.length_take]; omega))
  clear h
  generalize hnl : L.length = nl at *
  have HN := Lib.hid hnl
  clear hnl
  go_enter Tryz.func15, Tryz.ntmps15
  go_upto_region 1 with fail
  generalize hW : World.alloc w _ = W1
  have Zd : ZC W1 (w.heap.size) [.int .i32 a, .int .i32 b] := by rw [← hW]; exact (zc_new' _ _ _ (by first | rfl | simp))
  have gg : Kep w.heap.size w W1 := by rw [← hW]; exact (kep_more (Kep.refl _ _) _)
  clear hW
  have HD := Lib.hid Zd
  have G1 := Lib.hid gg
  clear Zd gg
  obtain ⟨db, hdb⟩ : ∃ b, b = w.heap.size := ⟨_, rfl⟩
  rw [← hdb] at HD ⊢
  clear hdb
  go_wp2_with fail
  go_loopw [6, 7] (fun out i wr => ∃ k : Nat, k ≤ nl ∧ i = .int .i64 k ∧ Hid ((L.take k).all (mvdO a b) = true) ∧ Hid (wr.ownsRow W1.heap.size 40 10 out ((L.take k).map (mvdB a b)).length (((L.take k).map (mvdB a b)).flatMap vals) ∧ Kep W1.heap.size W1 wr)) (fun _ i _ => nl - (RowKit.intOf i).toNat)
  case atStart => exact ⟨0, by omega, rfl, Lib.hid (by simp), Lib.hid ⟨World.ownsRow_nil _ _ _ _, Kep.refl _ _⟩⟩
  case round =>
    obtain ⟨k, hk, rfl, HZ, HP⟩ := hrel
    by_cases hlt : k < nl
    · have hb : L[k]? = some (L[k]'(by rw [HN.out]; exact hlt)) := List.getElem?_eq_getElem _
      generalize L[k]'(by rw [HN.out]; exact hlt) = x at hb
      have g1 := HP.out.2
      have HO := Lib.hid HP.out.1
      obtain ⟨gl, off, rfl, qx⟩ := HLA.out k x hb
      have hmem := List.mem_of_getElem? hb
      have hp := pb_of (HK.out x hmem)
      have hln := HLN.out k hk
      have HTA : Hid ((L.take (k + 1)).map (mvdB a b) = (L.take k).map (mvdB a b) ++ [mvdB a b x]) := Lib.hid (by rw [List.take_add_one, hb, List.map_append]; rfl)
      have HTB : Hid ((L.take (k + 1)).all (mvdO a b) = mvdO a b x) := Lib.hid (by rw [all_takeB hb, HZ.out, Bool.true_and])
      obtain ⟨X, hX⟩ : ∃ X, X = x.px + a := ⟨_, rfl⟩
      obtain ⟨Y, hY⟩ : ∃ Y, Y = x.py + b := ⟨_, rfl⟩
      have x4 := hp.px0; have x5 := hp.px1; have x6 := hp.py0; have x7 := hp.py1
      have f1 : IntKind.i64.wrap x.px = x.px := by rw [IntKind.wrap_i64]; omega
      have f2 : IntKind.i64.wrap x.py = x.py := by rw [IntKind.wrap_i64]; omega
      have f3 : IntKind.i64.wrap a = a := by rw [IntKind.wrap_i64]; omega
      have f4 : IntKind.i64.wrap b = b := by rw [IntKind.wrap_i64]; omega
      have f5 : IntKind.i64.wrap (x.px + a) = X := by rw [IntKind.wrap_i64]; omega
      have f6 : IntKind.i64.wrap (x.py + b) = Y := by rw [IntKind.wrap_i64]; omega
      have v5 : wrap64 (x.px + a) = X := by unfold wrap64; omega
      have v6 : wrap64 (x.py + b) = Y := by unfold wrap64; omega
      have HMX : Hid (mvdB a b x = plB x X Y) := Lib.hid (by rw [hX, hY]; rfl)
      have HMO : Hid (mvdO a b x = decide ((-1073741824 ≤ X ∧ X ≤ 1073741824) ∧ (-1073741824 ≤ Y ∧ Y ≤ 1073741824))) := Lib.hid (by rw [hX, hY]; rfl)
      have HAF : Hid (mvdO a b x = false → L.all (mvdO a b) = false) := Lib.hid fun e => by
        rw [List.all_eq_false]
        exact ⟨x, hmem, by rw [e]; decide⟩
      have d0 : wr.cell? ⟨db, 0, none⟩ = some (.int .i32 a) := g1.all (HD.out.i rfl)
      have d1 : wr.cell? ⟨db, 1, none⟩ = some (.int .i32 b) := g1.all (HD.out.i rfl)
      have gz := kep_next G1.out g1
      have s0 : wr.cell? ⟨gl, off + k * 10, none⟩ = some (.int .u32 x.k) := gz.all (qx 0 (by decide))
      have s1 : wr.cell? ⟨gl, off + k * 10 + 1, none⟩ = some (.int .i32 x.r) := gz.all (qx 1 (by decide))
      have s2 : wr.cell? ⟨gl, off + k * 10 + 2, none⟩ = some (.int .i32 x.ax) := gz.all (qx 2 (by decide))
      have s3 : wr.cell? ⟨gl, off + k * 10 + 3, none⟩ = some (.int .i32 x.ay) := gz.all (qx 3 (by decide))
      have s4 : wr.cell? ⟨gl, off + k * 10 + 4, none⟩ = some (.int .i32 x.m) := gz.all (qx 4 (by decide))
      have s5 : wr.cell? ⟨gl, off + k * 10 + 5, none⟩ = some (.int .i32 x.o) := gz.all (qx 5 (by decide))
      have s6 : wr.cell? ⟨gl, off + k * 10 + 6, none⟩ = some (.int .i32 x.px) := gz.all (qx 6 (by decide))
      have s7 : wr.cell? ⟨gl, off + k * 10 + 7, none⟩ = some (.int .i32 x.py) := gz.all (qx 7 (by decide))
      have s8 : wr.cell? ⟨gl, off + k * 10 + 8, none⟩ = some (.int .i32 x.vx) := gz.all (qx 8 (by decide))
      have s9 : wr.cell? ⟨gl, off + k * 10 + 9, none⟩ = some (.int .i32 x.vy) := gz.all (qx 9 (by decide))
      clear hb hmem hp hX hY x4 x5 x6 x7 qx HP gz
      have gg : Kep wr.heap.size wr wr := Kep.refl _ _
      have HS : Hid (∀ i, i < 10 → wr.cell? ⟨gl, off + k * 10 + i, none⟩ = (vals x)[i]?) := Lib.hid (by
        intro i hi
        rcases (by omega : i = 0 ∨ i = 1 ∨ i = 2 ∨ i = 3 ∨ i = 4 ∨ i = 5 ∨ i = 6 ∨ i = 7 ∨ i = 8 ∨ i = 9) with rfl | rfl | rfl | rfl | rfl | rfl | rfl | rfl | rfl | rfl <;> assumption)
      clear s0 s1 s2 s3 s4 s5 s8 s9
      go_upto_region 5 with fail
      refine wp_region_noPanic ?_
      refine wp_region_held_drew (S := (fun w' => w'.cell? ⟨db, 0, none⟩ = some (.int .i32 a) ∧ w'.cell? ⟨db, 1, none⟩ = some (.int .i32 b) ∧ w'.cell? ⟨gl, off + k * 10 + 6, none⟩ = some (.int .i32 x.px) ∧ w'.cell? ⟨gl, off + k * 10 + 7, none⟩ = some (.int .i32 x.py) ∧ Kep wr.heap.size wr w')) (by kernel_rfl) (⟨by rw [World.cell?_drew]; exact d0, by rw [World.cell?_drew]; exact d1, by rw [World.cell?_drew]; exact s6, by rw [World.cell?_drew]; exact s7, kep_drew gg⟩) (fun hH => ?_)
      refine sT 0 hH ?_
      refine sT 1 hH ?_
      refine sT 2 hH ?_
      refine sN 3 hH ?_
      refine sT 4 hH ?_
      refine sT 5 hH ?_
      refine sT 6 hH ?_
      refine sN 7 hH ?_
      refine sT 8 hH ?_
      refine sT 9 hH ?_
      refine sT 10 hH ?_
      refine sN 11 hH ?_
      refine sE ?_
      clear d0 d1 s6 s7 gg
      obtain ⟨d0, d1, s6, s7, gg⟩ := hH
      go_upto_region 6 with fail
      refine wp_region_noPanic ?_
      refine wp_region_held_drew (S := (fun w' => w'.cell? ⟨db, 0, none⟩ = some (.int .i32 a) ∧ w'.cell? ⟨db, 1, none⟩ = some (.int .i32 b) ∧ w'.cell? ⟨gl, off + k * 10 + 6, none⟩ = some (.int .i32 x.px) ∧ w'.cell? ⟨gl, off + k * 10 + 7, none⟩ = some (.int .i32 x.py) ∧ Kep wr.heap.size wr w')) (by kernel_rfl) (⟨by rw [World.cell?_drew]; exact d0, by rw [World.cell?_drew]; exact d1, by rw [World.cell?_drew]; exact s6, by rw [World.cell?_drew]; exact s7, kep_drew gg⟩) (fun hH => ?_)
      refine sT 0 hH ?_
      refine sT 1 hH ?_
      refine sT 2 hH ?_
      refine sN 3 hH ?_
      refine sT 4 hH ?_
      refine sT 5 hH ?_
      refine sT 6 hH ?_
      refine sN 7 hH ?_
      refine sT 8 hH ?_
      refine sT 9 hH ?_
      refine sT 10 hH ?_
      refine sN 11 hH ?_
      refine sE ?_
      clear d0 d1 s6 s7 gg
      obtain ⟨d0, d1, s6, s7, gg⟩ := hH
      generalize wr.drew.drew = W8 at *
      replace HO := Lib.hid (own_kep HO.out gg (Nat.le_refl _))
      replace g1 := kep_next g1 gg
      clear f1 f2 f3 f4 f5 f6 v5 v6 d0 d1 s6 s7
      by_cases hok : (-1073741824 ≤ X ∧ X ≤ 1073741824) ∧ (-1073741824 ≤ Y ∧ Y ≤ 1073741824)
      · obtain ⟨⟨o1, o2⟩, o3', o4⟩ := hok
        have c0 : decide (1073741824 < X) = false := decide_eq_false (by omega)
        have c1 : decide (X < -1073741824) = false := decide_eq_false (by omega)
        have c2 : decide (1073741824 < Y) = false := decide_eq_false (by omega)
        have c3 : decide (Y < -1073741824) = false := decide_eq_false (by omega)
        have HT1 : Hid ((L.take (k + 1)).all (mvdO a b) = true) := Lib.hid (by rw [HTB.out, HMO.out]; exact decide_eq_true ⟨⟨o1, o2⟩, o3', o4⟩)
        have h1 : IntKind.i32.wrap X = X := by rw [IntKind.wrap_i32]; omega
        have h2 : IntKind.i32.wrap Y = Y := by rw [IntKind.wrap_i32]; omega
        have h3 : wrap32 X = X := by unfold wrap32; omega
        have h4 : wrap32 Y = Y := by unfold wrap32; omega
        have HT : Hid ((L.take (k + 1)).map (mvdB a b) = (L.take k).map (mvdB a b) ++ [plB x X Y]) := Lib.hid (by rw [HTA.out, HMX.out])
        clear o1 o2 o3' o4 HTA HTB HMX HMO HAF
        have s0 : W8.cell? ⟨gl, off + k * 10, none⟩ = some (.int .u32 x.k) := gg.all (HS.out 0 (by decide))
        have s1 : W8.cell? ⟨gl, off + k * 10 + 1, none⟩ = some (.int .i32 x.r) := gg.all (HS.out 1 (by decide))
        have s2 : W8.cell? ⟨gl, off + k * 10 + 2, none⟩ = some (.int .i32 x.ax) := gg.all (HS.out 2 (by decide))
        have s3 : W8.cell? ⟨gl, off + k * 10 + 3, none⟩ = some (.int .i32 x.ay) := gg.all (HS.out 3 (by decide))
        have s4 : W8.cell? ⟨gl, off + k * 10 + 4, none⟩ = some (.int .i32 x.m) := gg.all (HS.out 4 (by decide))
        have s5 : W8.cell? ⟨gl, off + k * 10 + 5, none⟩ = some (.int .i32 x.o) := gg.all (HS.out 5 (by decide))
        have s6 : W8.cell? ⟨gl, off + k * 10 + 6, none⟩ = some (.int .i32 x.px) := gg.all (HS.out 6 (by decide))
        have s7 : W8.cell? ⟨gl, off + k * 10 + 7, none⟩ = some (.int .i32 x.py) := gg.all (HS.out 7 (by decide))
        have s8 : W8.cell? ⟨gl, off + k * 10 + 8, none⟩ = some (.int .i32 x.vx) := gg.all (HS.out 8 (by decide))
        have s9 : W8.cell? ⟨gl, off + k * 10 + 9, none⟩ = some (.int .i32 x.vy) := gg.all (HS.out 9 (by decide))
        clear gg HS
        go_wp2_with (first
          | (at_builtin; refine wpList_app vals 10 vals_lenK vals_oneK rfl _ _ 22 rfl 40 _ 40 Tryz.underlying22 info_body rfl (by decide) W1.heap.size _ _ ((L.take k).map (mvdB a b)) (plB x X Y) rfl (World.ownsRow.alloc HO.out _) _ (by first | rfl | simp) rfl _ rfl (by rw [hln]; unfold maxLen; omega) (by rw [hln]; omega) (kep_more g1 _).size ?_; intro v3 w3 o3 k3))
        have HM : Hid (w3.ownsRow W1.heap.size 40 10 v3 ((L.take (k + 1)).map (mvdB a b)).length (((L.take (k + 1)).map (mvdB a b)).flatMap vals) ∧ Kep W1.heap.size W1 w3) := Lib.hid ⟨by rw [HT.out]; exact o3, (kep_more g1 _).trans k3⟩
        clear o3 k3 hln
        go_roundw
        case rel => exact ⟨k + 1, by omega, by go_num, HT1, HM⟩
        case measure => simp [RowKit.intOf]; omega
      · have HF : Hid (L.all (mvdO a b) = false) := Lib.hid (HAF.out (by rw [HMO.out]; exact decide_eq_false hok))
        have HV : Hid (mvdN a b L = []) := Lib.hid (by unfold mvdN; rw [if_neg (by rw [HF.out]; decide)])
        have HGW := Lib.hid (kep_next G1.out g1)
        clear HTA HTB HMX HMO HAF HO HS hln gg g1
        by_cases e0 : 1073741824 < X
        · have c0 : decide (1073741824 < X) = true := decide_eq_true (by omega)
          clear hok e0
          go_wp2_with fail
          go_ret2
          exact ⟨_, by rw [HF.out]; rfl, by rw [HV.out]; exact .inl ⟨rfl, _, _, rfl⟩, HGW.out⟩
        by_cases e1 : X < -1073741824
        · have c0 : decide (1073741824 < X) = false := decide_eq_false (by omega)
          have c1 : decide (X < -1073741824) = true := decide_eq_true (by omega)
          clear hok e0 e1
          go_wp2_with fail
          go_ret2
          exact ⟨_, by rw [HF.out]; rfl, by rw [HV.out]; exact .inl ⟨rfl, _, _, rfl⟩, HGW.out⟩
        by_cases e2 : 1073741824 < Y
        · have c0 : decide (1073741824 < X) = false := decide_eq_false (by omega)
          have c1 : decide (X < -1073741824) = false := decide_eq_false (by omega)
          have c2 : decide (1073741824 < Y) = true := decide_eq_true (by omega)
          clear hok e0 e1 e2
          go_wp2_with fail
          go_ret2
          exact ⟨_, by rw [HF.out]; rfl, by rw [HV.out]; exact .inl ⟨rfl, _, _, rfl⟩, HGW.out⟩
        by_cases e3 : Y < -1073741824
        · have c0 : decide (1073741824 < X) = false := decide_eq_false (by omega)
          have c1 : decide (X < -1073741824) = false := decide_eq_false (by omega)
          have c2 : decide (1073741824 < Y) = false := decide_eq_false (by omega)
          have c3 : decide (Y < -1073741824) = true := decide_eq_true (by omega)
          clear hok e0 e1 e2 e3
          go_wp2_with fail
          go_ret2
          exact ⟨_, by rw [HF.out]; rfl, by rw [HV.out]; exact .inl ⟨rfl, _, _, rfl⟩, HGW.out⟩
        exact absurd ⟨⟨by omega, by omega⟩, by omega, by omega⟩ hok
    · obtain rfl : k = nl := by omega
      obtain ⟨h1, h2⟩ := HP.out
      have et : L.take k = L := List.take_of_length_le (by rw [HN.out]; omega)
      have hz := HZ.out
      rw [et] at h1 hz
      have HF := Lib.hid hz
      have HV : Hid (mvdN a b L = L.map (mvdB a b)) := Lib.hid (by unfold mvdN; rw [if_pos HF.out])
      have H1 := Lib.hid (own_lst h1)
      have HGW := Lib.hid (kep_next G1.out h2)
      clear h1 h2 HP et hz HZ
      go_wp2_with fail
      go_ret2
      exact ⟨_, by rw [HF.out]; rfl, by rw [HV.out]; exact H1.out, HGW.out⟩
end Go.Proofs.YtaknmlohnifcdaaGreatDoor
end
