/-
  Package jacobi: the reference's Sums and Round.
-/
import Derived.Test.YtbeaoogjcgplnaaJacRef2
import Derived.Test.YtbeaoogjcgplnaaJ10PairsRef2
import Derived.Test.YtbeaoogjcgplnaaJ01FxRef
import Derived.Test.YtbeaoogjcgplnaaJ03StorePut
import Derived.Deep.DeepCutAuto
import Derived.Deep.QuietTactic
import Derived.BigQuiet
namespace Go.Proofs.Ytbeaoogjcgplnaa
open Go.RowKit Go.Lib

theorem info_i64 : (Try.prog.info? 2).map (fun i => (i.zero, i.size, i.bytes)) = some (some (.int .i64 0), 1, 8) := by kernel_rfl
abbrev RSsx (L : List Bd) (C : List Ct) : Prop := ∀ v l w, Lst w v L → Sq ctv 5 w l C → Calls Try.prog 17 #[v, l, .bool false] w fun e w' => ∃ v', e = .returned v' ∧ Sq nv 1 w' v' (L.map (sumJ (·.nx) L C)) ∧ Kep w.heap.size w w'
set_option maxRecDepth 100000 in
set_option maxHeartbeats 4000000 in
theorem rss_x (L : List Bd) (hm : L.length ≤ 1000) (HV : Hid (∀ x ∈ L, Vb x)) (HA : Hid (Asc L)) (C : List Ct) (hmC : C.length ≤ 100) (HR : Hid (∀ c ∈ C, RgC L c)) : RSsx L C := fun v l w h hl => by
  have HRS := Lib.hid (fun (i : Nat) (x : Bd) (hx : L[i]? = some x) => rsj_x L (by omega) HV HA C hmC HR i x hx)
  have HL := Lib.hid h
  have HQ := Lib.hid hl
  obtain ⟨ba, ca, rfl⟩ := h.shape
  clear h hl
  obtain ⟨S, hS⟩ : ∃ S, S = sumJ (·.nx) L C := ⟨_, rfl⟩
  have HSS := Lib.hid hS
  have HLN := Lib.hid (fun (k : Nat) (hk : k ≤ L.length) => (show ((L.take k).map S).length = k by rw [List.length_map, List.length_take]; omega))
  rw [← hS]
  clear hS
  generalize hnl : L.length = nl at *
  have HN := Lib.hid hnl
  clear hnl
  go_enter Try.func17, Try.ntmps17
  go_wp2_with fail
  go_loopw [7, 8] (fun out i wr => ∃ k : Nat, k ≤ nl ∧ i = .int .i64 k ∧ Hid (wr.ownsRow w.heap.size 2 1 out ((L.take k).map S).length (((L.take k).map S).flatMap nv) ∧ Kep w.heap.size w wr)) (fun _ i _ => nl - (RowKit.intOf i).toNat)
  case atStart => exact ⟨0, by omega, rfl, Lib.hid ⟨World.ownsRow_nil _ _ _ _, Kep.refl _ _⟩⟩
  case round =>
    obtain ⟨k, hk, rfl, HP⟩ := hrel
    by_cases hlt : k < nl
    · have hb : L[k]? = some (L[k]'(by rw [HN.out]; exact hlt)) := List.getElem?_eq_getElem _
      generalize L[k]'(by rw [HN.out]; exact hlt) = x at hb
      have gg := HP.out.2
      have HO := Lib.hid HP.out.1
      obtain ⟨t, ht⟩ : ∃ t, t = S x := ⟨_, rfl⟩
      have RS := Lib.hid (fun w h1 h2 => (show Calls Try.prog 26 #[.slice ba nl ca, l, .int .i64 k, .bool false] w fun e w' => e = .returned (.int .i64 t) ∧ Kep w.heap.size w w' by rw [ht, HSS.out]; exact HRS.out k x hb _ _ w h1 h2))
      have HT : Hid ((L.take (k + 1)).map S = (L.take k).map S ++ [t]) := Lib.hid (by rw [List.take_add_one, hb, List.map_append, ht]; rfl)
      have hln := HLN.out k hk
      clear hb ht HP
      go_wp2_with (first
        | ((with_reducible refine (RS.out _ (HL.out.kep gg) (HQ.out.kep gg)).mono ?_); rintro e w2 ⟨rfl, g2⟩; replace HO := Lib.hid (own_kep HO.out g2 (Nat.le_refl _)); replace gg := kep_next gg g2)
        | (at_builtin; refine wpList_app nv 1 nv_len nv_one rfl _ _ 28 rfl 2 _ 8 Try.underlying28 info_i64 rfl (by decide) w.heap.size _ _ ((L.take k).map S) t rfl HO.out _ (by first | rfl | simp) rfl _ rfl (by rw [hln]; unfold maxLen; omega) (by rw [hln]; omega) gg.size ?_; intro v3 w3 o3 k3))
      have HM : Hid (w3.ownsRow w.heap.size 2 1 v3 ((L.take (k + 1)).map S).length (((L.take (k + 1)).map S).flatMap nv) ∧ Kep w.heap.size w w3) := Lib.hid ⟨by rw [HT.out]; exact o3, gg.trans k3⟩
      clear o3 k3 hln
      go_roundw
      case rel => exact ⟨k + 1, by omega, by go_num, HM⟩
      case measure => simp [RowKit.intOf]; omega
    · obtain rfl : k = nl := by omega
      obtain ⟨h1, h2⟩ := HP.out
      rw [List.take_of_length_le (by rw [HN.out]; omega)] at h1
      have H1 := Lib.hid (own_sq nv_len h1)
      clear h1 HP
      go_wp2_with fail
      go_ret
      exact ⟨_, rfl, H1.out, h2⟩
abbrev RSsy (L : List Bd) (C : List Ct) : Prop := ∀ v l w, Lst w v L → Sq ctv 5 w l C → Calls Try.prog 17 #[v, l, .bool true] w fun e w' => ∃ v', e = .returned v' ∧ Sq nv 1 w' v' (L.map (sumJ (·.ny) L C)) ∧ Kep w.heap.size w w'
set_option maxRecDepth 100000 in
set_option maxHeartbeats 4000000 in
theorem rss_y (L : List Bd) (hm : L.length ≤ 1000) (HV : Hid (∀ x ∈ L, Vb x)) (HA : Hid (Asc L)) (C : List Ct) (hmC : C.length ≤ 100) (HR : Hid (∀ c ∈ C, RgC L c)) : RSsy L C := fun v l w h hl => by
  have HRS := Lib.hid (fun (i : Nat) (x : Bd) (hx : L[i]? = some x) => rsj_y L (by omega) HV HA C hmC HR i x hx)
  have HL := Lib.hid h
  have HQ := Lib.hid hl
  obtain ⟨ba, ca, rfl⟩ := h.shape
  clear h hl
  obtain ⟨S, hS⟩ : ∃ S, S = sumJ (·.ny) L C := ⟨_, rfl⟩
  have HSS := Lib.hid hS
  have HLN := Lib.hid (fun (k : Nat) (hk : k ≤ L.length) => (show ((L.take k).map S).length = k by rw [List.length_map, List.length_take]; omega))
  rw [← hS]
  clear hS
  generalize hnl : L.length = nl at *
  have HN := Lib.hid hnl
  clear hnl
  go_enter Try.func17, Try.ntmps17
  go_wp2_with fail
  go_loopw [7, 8] (fun out i wr => ∃ k : Nat, k ≤ nl ∧ i = .int .i64 k ∧ Hid (wr.ownsRow w.heap.size 2 1 out ((L.take k).map S).length (((L.take k).map S).flatMap nv) ∧ Kep w.heap.size w wr)) (fun _ i _ => nl - (RowKit.intOf i).toNat)
  case atStart => exact ⟨0, by omega, rfl, Lib.hid ⟨World.ownsRow_nil _ _ _ _, Kep.refl _ _⟩⟩
  case round =>
    obtain ⟨k, hk, rfl, HP⟩ := hrel
    by_cases hlt : k < nl
    · have hb : L[k]? = some (L[k]'(by rw [HN.out]; exact hlt)) := List.getElem?_eq_getElem _
      generalize L[k]'(by rw [HN.out]; exact hlt) = x at hb
      have gg := HP.out.2
      have HO := Lib.hid HP.out.1
      obtain ⟨t, ht⟩ : ∃ t, t = S x := ⟨_, rfl⟩
      have RS := Lib.hid (fun w h1 h2 => (show Calls Try.prog 26 #[.slice ba nl ca, l, .int .i64 k, .bool true] w fun e w' => e = .returned (.int .i64 t) ∧ Kep w.heap.size w w' by rw [ht, HSS.out]; exact HRS.out k x hb _ _ w h1 h2))
      have HT : Hid ((L.take (k + 1)).map S = (L.take k).map S ++ [t]) := Lib.hid (by rw [List.take_add_one, hb, List.map_append, ht]; rfl)
      have hln := HLN.out k hk
      clear hb ht HP
      go_wp2_with (first
        | ((with_reducible refine (RS.out _ (HL.out.kep gg) (HQ.out.kep gg)).mono ?_); rintro e w2 ⟨rfl, g2⟩; replace HO := Lib.hid (own_kep HO.out g2 (Nat.le_refl _)); replace gg := kep_next gg g2)
        | (at_builtin; refine wpList_app nv 1 nv_len nv_one rfl _ _ 28 rfl 2 _ 8 Try.underlying28 info_i64 rfl (by decide) w.heap.size _ _ ((L.take k).map S) t rfl HO.out _ (by first | rfl | simp) rfl _ rfl (by rw [hln]; unfold maxLen; omega) (by rw [hln]; omega) gg.size ?_; intro v3 w3 o3 k3))
      have HM : Hid (w3.ownsRow w.heap.size 2 1 v3 ((L.take (k + 1)).map S).length (((L.take (k + 1)).map S).flatMap nv) ∧ Kep w.heap.size w w3) := Lib.hid ⟨by rw [HT.out]; exact o3, gg.trans k3⟩
      clear o3 k3 hln
      go_roundw
      case rel => exact ⟨k + 1, by omega, by go_num, HM⟩
      case measure => simp [RowKit.intOf]; omega
    · obtain rfl : k = nl := by omega
      obtain ⟨h1, h2⟩ := HP.out
      rw [List.take_of_length_le (by rw [HN.out]; omega)] at h1
      have H1 := Lib.hid (own_sq nv_len h1)
      clear h1 HP
      go_wp2_with fail
      go_ret
      exact ⟨_, rfl, H1.out, h2⟩
abbrev RRd (L : List Bd) (C : List Ct) : Prop := ∀ v l w, Lst w v L → Sq ctv 5 w l C → Calls Try.prog 13 #[v, l] w fun e w' => ∃ v', e = .returned (.tuple #[v', .bool (clL L C)]) ∧ Lst w' v' (rndL L C) ∧ Kep w.heap.size w w'
set_option maxRecDepth 100000 in
set_option maxHeartbeats 8000000 in
theorem rrd (L : List Bd) (hm : L.length ≤ 1000) (HV : Hid (∀ x ∈ L, Vb x)) (HA : Hid (Asc L)) (C : List Ct) (hmC : C.length ≤ 100) (HR : Hid (∀ c ∈ C, RgC L c)) : RRd L C := fun v l w h hl => by
  have HRX := Lib.hid (fun (i : Nat) (x : Bd) (hx : L[i]? = some x) => rsj_x L (by omega) HV HA C hmC HR i x hx)
  have HRY := Lib.hid (fun (i : Nat) (x : Bd) (hx : L[i]? = some x) => rsj_y L (by omega) HV HA C hmC HR i x hx)
  have HBX := Lib.hid (fun (x : Bd) (hx : x ∈ L) => sumJ_bd (f := (·.nx)) HV.out hx HR.out (fun c hc => (HR.out c hc).nx) hmC)
  have HBY := Lib.hid (fun (x : Bd) (hx : x ∈ L) => sumJ_bd (f := (·.ny)) HV.out hx HR.out (fun c hc => (HR.out c hc).ny) hmC)
  have HL := Lib.hid h
  have HQ := Lib.hid hl
  obtain ⟨ba, ca, rfl⟩ := h.shape
  have HLA := Lib.hid (fun (k : Nat) (y : Bd) (hy : L[k]? = some y) => h.at_ hy)
  have HLN := Lib.hid (fun (k : Nat) (hk : k ≤ L.length) => (show ((L.take k).map (rndB L C)).length = k by rw [List.length_map, List.length_take]; omega))
  clear h hl
  generalize hnl : L.length = nl at *
  have HN := Lib.hid hnl
  clear hnl
  go_enter Try.func13, Try.ntmps13
  go_wp2_with fail
  go_loopw [6, 7, 8] (fun out cl i wr => ∃ k : Nat, k ≤ nl ∧ i = .int .i64 k ∧ (∃ z : Bool, cl = .bool z ∧ Hid ((L.take k).any (clB L C) = z)) ∧ Hid (wr.ownsRow w.heap.size 44 10 out ((L.take k).map (rndB L C)).length (((L.take k).map (rndB L C)).flatMap vals) ∧ Kep w.heap.size w wr)) (fun _ _ i _ => nl - (RowKit.intOf i).toNat)
  case atStart => exact ⟨0, by omega, rfl, ⟨false, rfl, Lib.hid (by simp)⟩, Lib.hid ⟨World.ownsRow_nil _ _ _ _, Kep.refl _ _⟩⟩
  case round =>
    obtain ⟨k, hk, rfl, ⟨z, rfl, HZ⟩, HP⟩ := hrel
    by_cases hlt : k < nl
    · have hb : L[k]? = some (L[k]'(by rw [HN.out]; exact hlt)) := List.getElem?_eq_getElem _
      generalize L[k]'(by rw [HN.out]; exact hlt) = x at hb
      have gg := HP.out.2
      have HO := Lib.hid HP.out.1
      obtain ⟨gl, off, rfl, qx⟩ := HLA.out k x hb
      have hxm := List.mem_of_getElem? hb
      obtain ⟨sx, hsx⟩ : ∃ t, t = sumJ (·.nx) L C x := ⟨_, rfl⟩
      obtain ⟨sy, hsy⟩ : ∃ t, t = sumJ (·.ny) L C x := ⟨_, rfl⟩
      have RX := Lib.hid (fun w h1 h2 => (show Calls Try.prog 26 #[.slice (some ⟨gl, off, none⟩) nl ca, l, .int .i64 k, .bool false] w fun e w' => e = .returned (.int .i64 sx) ∧ Kep w.heap.size w w' by rw [hsx]; exact HRX.out k x hb _ _ w h1 h2))
      have RY := Lib.hid (fun w h1 h2 => (show Calls Try.prog 26 #[.slice (some ⟨gl, off, none⟩) nl ca, l, .int .i64 k, .bool true] w fun e w' => e = .returned (.int .i64 sy) ∧ Kep w.heap.size w w' by rw [hsy]; exact HRY.out k x hb _ _ w h1 h2))
      have bx := HBX.out x hxm
      have b_y := HBY.out x hxm
      rw [← hsx] at bx
      rw [← hsy] at b_y
      have hv := HV.out x hxm
      have v0 := hv.vx0
      have v1 := hv.vx1
      have v2 := hv.vy0
      have v3 := hv.vy1
      obtain ⟨ex, hex⟩ : ∃ t, t = x.vx + sx := ⟨_, rfl⟩
      obtain ⟨ey, hey⟩ : ∃ t, t = x.vy + sy := ⟨_, rfl⟩
      obtain ⟨lx, hlx⟩ : ∃ t, t = limJ ex := ⟨_, rfl⟩
      obtain ⟨ly, hly⟩ : ∃ t, t = limJ ey := ⟨_, rfl⟩
      have bl1 := limJ_bd ex
      have bl2 := limJ_bd ey
      rw [← hlx] at bl1
      rw [← hly] at bl2
      have HB1 : Hid (rndB L C x = velB x lx ly) := Lib.hid (by unfold rndB rndX rndY; rw [hlx, hly, hex, hey, hsx, hsy])
      have HB2 : Hid (clB L C x = (decide (lx ≠ ex) || decide (ly ≠ ey))) := Lib.hid (by unfold clB rndX rndY; rw [hlx, hly, hex, hey, hsx, hsy])
      have LX := Lib.hid (fun w => (show Calls Try.prog 27 #[.int .i64 ex, .int .i64 16777216] w fun e w' => e = .returned (.int .i64 lx) ∧ w = w' by rw [hlx]; exact reflim_any ex 16777216 (by unfold I64; omega) (by decide) (by decide) w))
      have LY := Lib.hid (fun w => (show Calls Try.prog 27 #[.int .i64 ey, .int .i64 16777216] w fun e w' => e = .returned (.int .i64 ly) ∧ w = w' by rw [hly]; exact reflim_any ey 16777216 (by unfold I64; omega) (by decide) (by decide) w))
      have f1 : IntKind.i64.wrap x.vx = x.vx := by rw [IntKind.wrap_i64]; omega
      have f2 : IntKind.i64.wrap x.vy = x.vy := by rw [IntKind.wrap_i64]; omega
      have f3 : IntKind.i64.wrap (x.vx + sx) = ex := by rw [IntKind.wrap_i64]; omega
      have f4 : IntKind.i64.wrap (x.vy + sy) = ey := by rw [IntKind.wrap_i64]; omega
      have f5 : IntKind.i32.wrap lx = lx := by rw [IntKind.wrap_i32]; omega
      have f6 : IntKind.i32.wrap ly = ly := by rw [IntKind.wrap_i32]; omega
      have f7 : IntKind.i64.wrap lx = lx := by rw [IntKind.wrap_i64]; omega
      have f8 : IntKind.i64.wrap ly = ly := by rw [IntKind.wrap_i64]; omega
      have f9 : wrap32 lx = lx := by unfold wrap32; omega
      have f10 : wrap32 ly = ly := by unfold wrap32; omega
      have hln := HLN.out k hk
      have HTB : Hid ((L.take (k + 1)).map (rndB L C) = (L.take k).map (rndB L C) ++ [velB x lx ly]) := Lib.hid (by rw [List.take_add_one, hb, List.map_append, ← HB1.out]; rfl)
      have HTZ : Hid ((L.take (k + 1)).any (clB L C) = (z || (decide (lx ≠ ex) || decide (ly ≠ ey)))) := Lib.hid (by rw [any_take hb, HZ.out, HB2.out])
      have s0 : wr.cell? ⟨gl, off + k * 10, none⟩ = some (.int .u32 x.k) := gg.all (qx 0 (by decide))
      have s1 : wr.cell? ⟨gl, off + k * 10 + 1, none⟩ = some (.int .i32 x.r) := gg.all (qx 1 (by decide))
      have s2 : wr.cell? ⟨gl, off + k * 10 + 2, none⟩ = some (.int .i32 x.ax) := gg.all (qx 2 (by decide))
      have s3 : wr.cell? ⟨gl, off + k * 10 + 3, none⟩ = some (.int .i32 x.ay) := gg.all (qx 3 (by decide))
      have s4 : wr.cell? ⟨gl, off + k * 10 + 4, none⟩ = some (.int .i32 x.m) := gg.all (qx 4 (by decide))
      have s5 : wr.cell? ⟨gl, off + k * 10 + 5, none⟩ = some (.int .i32 x.o) := gg.all (qx 5 (by decide))
      have s6 : wr.cell? ⟨gl, off + k * 10 + 6, none⟩ = some (.int .i32 x.px) := gg.all (qx 6 (by decide))
      have s7 : wr.cell? ⟨gl, off + k * 10 + 7, none⟩ = some (.int .i32 x.py) := gg.all (qx 7 (by decide))
      have s8 : wr.cell? ⟨gl, off + k * 10 + 8, none⟩ = some (.int .i32 x.vx) := gg.all (qx 8 (by decide))
      have s9 : wr.cell? ⟨gl, off + k * 10 + 9, none⟩ = some (.int .i32 x.vy) := gg.all (qx 9 (by decide))
      clear hb hxm hsx hsy hex hey hlx hly bx b_y hv v0 v1 v2 v3 bl1 bl2 qx HP
      go_wp2_with fail
      refine wp_region_noPanic ?_
      refine wp_region_held_drew (S := (fun w' => w'.cell? ⟨gl, off + k * 10, none⟩ = some (.int .u32 x.k) ∧ w'.cell? ⟨gl, off + k * 10 + 1, none⟩ = some (.int .i32 x.r) ∧ w'.cell? ⟨gl, off + k * 10 + 2, none⟩ = some (.int .i32 x.ax) ∧ w'.cell? ⟨gl, off + k * 10 + 3, none⟩ = some (.int .i32 x.ay) ∧ w'.cell? ⟨gl, off + k * 10 + 4, none⟩ = some (.int .i32 x.m) ∧ w'.cell? ⟨gl, off + k * 10 + 5, none⟩ = some (.int .i32 x.o) ∧ w'.cell? ⟨gl, off + k * 10 + 6, none⟩ = some (.int .i32 x.px) ∧ w'.cell? ⟨gl, off + k * 10 + 7, none⟩ = some (.int .i32 x.py) ∧ w'.cell? ⟨gl, off + k * 10 + 8, none⟩ = some (.int .i32 x.vx) ∧ w'.cell? ⟨gl, off + k * 10 + 9, none⟩ = some (.int .i32 x.vy) ∧ Kep w.heap.size w w')) (by kernel_rfl) (⟨by rw [World.cell?_drew]; exact s0, by rw [World.cell?_drew]; exact s1, by rw [World.cell?_drew]; exact s2, by rw [World.cell?_drew]; exact s3, by rw [World.cell?_drew]; exact s4, by rw [World.cell?_drew]; exact s5, by rw [World.cell?_drew]; exact s6, by rw [World.cell?_drew]; exact s7, by rw [World.cell?_drew]; exact s8, by rw [World.cell?_drew]; exact s9, kep_drew gg⟩) (fun hH => ?_)
      refine rtk 0 (oi := ⟨some 18, .move (.tmp 0), _, _, _, none⟩) (v := ?_) rfl ?_ hH ?_
      rotate_left
      · (intro w hSw; (try dsimp only at hSw); go_simp; (try with_reducible rfl))
      refine rtk 1 (oi := ⟨some 19, .move (.tmp 8), _, _, _, none⟩) (v := ?_) rfl ?_ hH ?_
      rotate_left
      · (intro w hSw; (try dsimp only at hSw); go_simp; (try with_reducible rfl))
      refine rtk 2 (oi := ⟨some 20, .indexAddr 22 (.tmp 18) (.tmp 19), _, _, _, none⟩) (v := ?_) rfl ?_ hH ?_
      rotate_left
      · (intro w hSw; (try dsimp only at hSw); go_simp; (try with_reducible rfl))
      refine rtk 3 (oi := ⟨some 21, .fieldAddr 44 (.tmp 20) 6, _, _, _, none⟩) (v := ?_) rfl ?_ hH ?_
      rotate_left
      · (intro w hSw; (try dsimp only at hSw); go_simp; (try with_reducible rfl))
      try simp only [Act.put, List.setIfInBounds_toArray, List.set_cons_zero, List.set_cons_succ]
      refine rtk 4 (oi := ⟨some 22, .fieldAddr 39 (.tmp 21) 0, _, _, _, none⟩) (v := ?_) rfl ?_ hH ?_
      rotate_left
      · (intro w hSw; (try dsimp only at hSw); go_simp; (try with_reducible rfl))
      refine rtk 5 (oi := ⟨some 23, .load 21 (.tmp 22), _, _, _, none⟩) (v := ?_) rfl ?_ hH ?_
      rotate_left
      · (intro w hSw; (try dsimp only at hSw); go_simp; (try with_reducible rfl))
      refine rtk 6 (oi := ⟨some 24, .convert 21 2 (.tmp 23), _, _, _, none⟩) (v := ?_) rfl ?_ hH ?_
      rotate_left
      · (intro w hSw; (try dsimp only at hSw); go_simp; (try with_reducible rfl))
      refine rtk 7 (oi := ⟨some 25, .move (.tmp 0), _, _, _, none⟩) (v := ?_) rfl ?_ hH ?_
      rotate_left
      · (intro w hSw; (try dsimp only at hSw); go_simp; (try with_reducible rfl))
      try simp only [Act.put, List.setIfInBounds_toArray, List.set_cons_zero, List.set_cons_succ]
      refine rtk 8 (oi := ⟨some 26, .move (.tmp 1), _, _, _, none⟩) (v := ?_) rfl ?_ hH ?_
      rotate_left
      · (intro w hSw; (try dsimp only at hSw); go_simp; (try with_reducible rfl))
      refine rtk 9 (oi := ⟨some 27, .move (.tmp 8), _, _, _, none⟩) (v := ?_) rfl ?_ hH ?_
      rotate_left
      · (intro w hSw; (try dsimp only at hSw); go_simp; (try with_reducible rfl))
      try simp only [Act.put, List.setIfInBounds_toArray, List.set_cons_zero, List.set_cons_succ]
      refine wpAnyH_ready (rs := [10]) (by kernel_rfl) (by simp) ?_
      refine AllReadyH.cons (o := ⟨some 28, .call { callee := .value (.func 26), args := #[.tmp 25, .tmp 26, .tmp 27, .const (Value.bool false)], argTypes := #[22, 23, 3, 4] }, _, _, _, none⟩) rfl (fun K hK => ?_) AllReadyH.nil
      go_simp
      refine (RX.out _ (HL.out.kep (hH.2.2.2.2.2.2.2.2.2.2)) (HQ.out.kep (hH.2.2.2.2.2.2.2.2.2.2))).mono ?_; rintro e v6_10 ⟨rfl, g⟩
      replace HO := Lib.hid (own_kep (World.ownsRow.drew HO.out) g (Nat.le_refl _))
      refine hK.out _ _ (by (try dsimp only); (go_split_ands; exact ⟨Kep.all g (by assumption), Kep.all g (by assumption), Kep.all g (by assumption), Kep.all g (by assumption), Kep.all g (by assumption), Kep.all g (by assumption), Kep.all g (by assumption), Kep.all g (by assumption), Kep.all g (by assumption), Kep.all g (by assumption), kep_next (by assumption) g⟩)) (fun hH2 => ?_)
      clear hK K hH; have hH := hH2; clear hH2
      refine rtk 11 (oi := ⟨some 29, .binOp .add 2 (.tmp 24) (.tmp 28) 2, _, _, _, none⟩) (v := ?_) rfl ?_ hH ?_
      rotate_left
      · (intro w hSw; (try dsimp only at hSw); go_simp; (try with_reducible rfl))
      refine rtk 12 (oi := ⟨some 9, .assign (.tmp 29), _, _, _, none⟩) (v := ?_) rfl ?_ hH ?_
      rotate_left
      · (intro w hSw; (try dsimp only at hSw); go_simp; (try with_reducible rfl))
      try simp only [Act.put, List.setIfInBounds_toArray, List.set_cons_zero, List.set_cons_succ]
      refine wpAnyH_done (by kernel_rfl) ?_ _
      refine NoPanic.normal ?_
      clear s0 s1 s2 s3 s4 s5 s6 s7 s8 s9 gg
      obtain ⟨s0, s1, s2, s3, s4, s5, s6, s7, s8, s9, gg⟩ := hH
      go_wp2_with fail
      refine wp_region_noPanic ?_
      refine wp_region_held_drew (S := (fun w' => w'.cell? ⟨gl, off + k * 10, none⟩ = some (.int .u32 x.k) ∧ w'.cell? ⟨gl, off + k * 10 + 1, none⟩ = some (.int .i32 x.r) ∧ w'.cell? ⟨gl, off + k * 10 + 2, none⟩ = some (.int .i32 x.ax) ∧ w'.cell? ⟨gl, off + k * 10 + 3, none⟩ = some (.int .i32 x.ay) ∧ w'.cell? ⟨gl, off + k * 10 + 4, none⟩ = some (.int .i32 x.m) ∧ w'.cell? ⟨gl, off + k * 10 + 5, none⟩ = some (.int .i32 x.o) ∧ w'.cell? ⟨gl, off + k * 10 + 6, none⟩ = some (.int .i32 x.px) ∧ w'.cell? ⟨gl, off + k * 10 + 7, none⟩ = some (.int .i32 x.py) ∧ w'.cell? ⟨gl, off + k * 10 + 8, none⟩ = some (.int .i32 x.vx) ∧ w'.cell? ⟨gl, off + k * 10 + 9, none⟩ = some (.int .i32 x.vy) ∧ Kep w.heap.size w w')) (by kernel_rfl) (⟨by rw [World.cell?_drew]; exact s0, by rw [World.cell?_drew]; exact s1, by rw [World.cell?_drew]; exact s2, by rw [World.cell?_drew]; exact s3, by rw [World.cell?_drew]; exact s4, by rw [World.cell?_drew]; exact s5, by rw [World.cell?_drew]; exact s6, by rw [World.cell?_drew]; exact s7, by rw [World.cell?_drew]; exact s8, by rw [World.cell?_drew]; exact s9, kep_drew gg⟩) (fun hH => ?_)
      refine rtk 0 (oi := ⟨some 30, .move (.tmp 0), _, _, _, none⟩) (v := ?_) rfl ?_ hH ?_
      rotate_left
      · (intro w hSw; (try dsimp only at hSw); go_simp; (try with_reducible rfl))
      refine rtk 1 (oi := ⟨some 31, .move (.tmp 8), _, _, _, none⟩) (v := ?_) rfl ?_ hH ?_
      rotate_left
      · (intro w hSw; (try dsimp only at hSw); go_simp; (try with_reducible rfl))
      refine rtk 2 (oi := ⟨some 32, .indexAddr 22 (.tmp 30) (.tmp 31), _, _, _, none⟩) (v := ?_) rfl ?_ hH ?_
      rotate_left
      · (intro w hSw; (try dsimp only at hSw); go_simp; (try with_reducible rfl))
      refine rtk 3 (oi := ⟨some 33, .fieldAddr 44 (.tmp 32) 6, _, _, _, none⟩) (v := ?_) rfl ?_ hH ?_
      rotate_left
      · (intro w hSw; (try dsimp only at hSw); go_simp; (try with_reducible rfl))
      try simp only [Act.put, List.setIfInBounds_toArray, List.set_cons_zero, List.set_cons_succ]
      refine rtk 4 (oi := ⟨some 34, .fieldAddr 39 (.tmp 33) 1, _, _, _, none⟩) (v := ?_) rfl ?_ hH ?_
      rotate_left
      · (intro w hSw; (try dsimp only at hSw); go_simp; (try with_reducible rfl))
      refine rtk 5 (oi := ⟨some 35, .load 21 (.tmp 34), _, _, _, none⟩) (v := ?_) rfl ?_ hH ?_
      rotate_left
      · (intro w hSw; (try dsimp only at hSw); go_simp; (try with_reducible rfl))
      refine rtk 6 (oi := ⟨some 36, .convert 21 2 (.tmp 35), _, _, _, none⟩) (v := ?_) rfl ?_ hH ?_
      rotate_left
      · (intro w hSw; (try dsimp only at hSw); go_simp; (try with_reducible rfl))
      refine rtk 7 (oi := ⟨some 37, .move (.tmp 0), _, _, _, none⟩) (v := ?_) rfl ?_ hH ?_
      rotate_left
      · (intro w hSw; (try dsimp only at hSw); go_simp; (try with_reducible rfl))
      try simp only [Act.put, List.setIfInBounds_toArray, List.set_cons_zero, List.set_cons_succ]
      refine rtk 8 (oi := ⟨some 38, .move (.tmp 1), _, _, _, none⟩) (v := ?_) rfl ?_ hH ?_
      rotate_left
      · (intro w hSw; (try dsimp only at hSw); go_simp; (try with_reducible rfl))
      refine rtk 9 (oi := ⟨some 39, .move (.tmp 8), _, _, _, none⟩) (v := ?_) rfl ?_ hH ?_
      rotate_left
      · (intro w hSw; (try dsimp only at hSw); go_simp; (try with_reducible rfl))
      try simp only [Act.put, List.setIfInBounds_toArray, List.set_cons_zero, List.set_cons_succ]
      refine wpAnyH_ready (rs := [10]) (by kernel_rfl) (by simp) ?_
      refine AllReadyH.cons (o := ⟨some 40, .call { callee := .value (.func 26), args := #[.tmp 37, .tmp 38, .tmp 39, .const (Value.bool true)], argTypes := #[22, 23, 3, 4] }, _, _, _, none⟩) rfl (fun K hK => ?_) AllReadyH.nil
      go_simp
      refine (RY.out _ (HL.out.kep (hH.2.2.2.2.2.2.2.2.2.2)) (HQ.out.kep (hH.2.2.2.2.2.2.2.2.2.2))).mono ?_; rintro e v7_10 ⟨rfl, g⟩
      replace HO := Lib.hid (own_kep (World.ownsRow.drew HO.out) g (Nat.le_refl _))
      refine hK.out _ _ (by (try dsimp only); (go_split_ands; exact ⟨Kep.all g (by assumption), Kep.all g (by assumption), Kep.all g (by assumption), Kep.all g (by assumption), Kep.all g (by assumption), Kep.all g (by assumption), Kep.all g (by assumption), Kep.all g (by assumption), Kep.all g (by assumption), Kep.all g (by assumption), kep_next (by assumption) g⟩)) (fun hH2 => ?_)
      clear hK K hH; have hH := hH2; clear hH2
      refine rtk 11 (oi := ⟨some 41, .binOp .add 2 (.tmp 36) (.tmp 40) 2, _, _, _, none⟩) (v := ?_) rfl ?_ hH ?_
      rotate_left
      · (intro w hSw; (try dsimp only at hSw); go_simp; (try with_reducible rfl))
      refine rtk 12 (oi := ⟨some 10, .assign (.tmp 41), _, _, _, none⟩) (v := ?_) rfl ?_ hH ?_
      rotate_left
      · (intro w hSw; (try dsimp only at hSw); go_simp; (try with_reducible rfl))
      try simp only [Act.put, List.setIfInBounds_toArray, List.set_cons_zero, List.set_cons_succ]
      refine wpAnyH_done (by kernel_rfl) ?_ _
      refine NoPanic.normal ?_
      clear s0 s1 s2 s3 s4 s5 s6 s7 s8 s9 gg
      obtain ⟨s0, s1, s2, s3, s4, s5, s6, s7, s8, s9, gg⟩ := hH
      have gz := gg.size
      have hgl : gl < v7_10.heap.size := World.block_lt_of_cell? _ _ s0
      obtain ⟨zx, hzx⟩ : ∃ z, (lx != ex) = z := ⟨_, rfl⟩
      obtain ⟨zy, hzy⟩ : ∃ z, (ly != ey) = z := ⟨_, rfl⟩
      have HZX : Hid (decide (lx ≠ ex) = zx) := Lib.hid (by rw [← hzx, Bool.eq_iff_iff, decide_eq_true_iff, bne_iff_ne])
      have HZY : Hid (decide (ly ≠ ey) = zy) := Lib.hid (by rw [← hzy, Bool.eq_iff_iff, decide_eq_true_iff, bne_iff_ne])
      rw [HZX.out, HZY.out] at HTZ
      go_upto_region 10 with (first | ((with_reducible refine (LX.out _).mono ?_); rintro e w9 ⟨rfl, rfl⟩) | ((with_reducible refine (LY.out _).mono ?_); rintro e w9 ⟨rfl, rfl⟩))
      cases z with
      | true =>
        go_wp2_with (first
          | (at_builtin; refine wpList_app vals 10 vals_lenK vals_oneK rfl _ _ 22 rfl 44 _ 40 Try.underlying22 info_body rfl (by decide) w.heap.size _ _ ((L.take k).map (rndB L C)) (velB x lx ly) rfl (World.ownsRow.alloc HO.out _) _ (by first | rfl | simp) rfl _ rfl (by rw [hln]; unfold maxLen; omega) (by rw [hln]; omega) (kep_more gg _).size ?_; intro v3 w3 o3 k3))
        have HM : Hid (w3.ownsRow w.heap.size 44 10 v3 ((L.take (k + 1)).map (rndB L C)).length (((L.take (k + 1)).map (rndB L C)).flatMap vals) ∧ Kep w.heap.size w w3) := Lib.hid ⟨by rw [HTB.out]; exact o3, (kep_more gg _).trans k3⟩
        clear o3 k3 hln
        go_roundw
        case rel => exact ⟨k + 1, by omega, by go_num, ⟨true, rfl, Lib.hid (by rw [HTZ.out]; simp)⟩, HM⟩
        case measure => simp [RowKit.intOf]; omega
      | false =>
        cases zx with
        | true =>
          go_wp2_with (first
            | (at_builtin; refine wpList_app vals 10 vals_lenK vals_oneK rfl _ _ 22 rfl 44 _ 40 Try.underlying22 info_body rfl (by decide) w.heap.size _ _ ((L.take k).map (rndB L C)) (velB x lx ly) rfl (World.ownsRow.alloc HO.out _) _ (by first | rfl | simp) rfl _ rfl (by rw [hln]; unfold maxLen; omega) (by rw [hln]; omega) (kep_more gg _).size ?_; intro v3 w3 o3 k3))
          have HM : Hid (w3.ownsRow w.heap.size 44 10 v3 ((L.take (k + 1)).map (rndB L C)).length (((L.take (k + 1)).map (rndB L C)).flatMap vals) ∧ Kep w.heap.size w w3) := Lib.hid ⟨by rw [HTB.out]; exact o3, (kep_more gg _).trans k3⟩
          clear o3 k3 hln
          go_roundw
          case rel => exact ⟨k + 1, by omega, by go_num, ⟨true, rfl, Lib.hid (by rw [HTZ.out]; simp)⟩, HM⟩
          case measure => simp [RowKit.intOf]; omega
        | false =>
          go_wp2_with (first
            | (at_builtin; refine wpList_app vals 10 vals_lenK vals_oneK rfl _ _ 22 rfl 44 _ 40 Try.underlying22 info_body rfl (by decide) w.heap.size _ _ ((L.take k).map (rndB L C)) (velB x lx ly) rfl (World.ownsRow.alloc HO.out _) _ (by first | rfl | simp) rfl _ rfl (by rw [hln]; unfold maxLen; omega) (by rw [hln]; omega) (kep_more gg _).size ?_; intro v3 w3 o3 k3))
          have HM : Hid (w3.ownsRow w.heap.size 44 10 v3 ((L.take (k + 1)).map (rndB L C)).length (((L.take (k + 1)).map (rndB L C)).flatMap vals) ∧ Kep w.heap.size w w3) := Lib.hid ⟨by rw [HTB.out]; exact o3, (kep_more gg _).trans k3⟩
          clear o3 k3 hln
          go_roundw
          case rel => exact ⟨k + 1, by omega, by go_num, ⟨zy, rfl, Lib.hid (by rw [HTZ.out]; simp)⟩, HM⟩
          case measure => simp [RowKit.intOf]; omega
    · obtain rfl : k = nl := by omega
      obtain ⟨h1, h2⟩ := HP.out
      have et : L.take k = L := List.take_of_length_le (by rw [HN.out]; omega)
      rw [et] at h1 HZ
      have H1 := Lib.hid (own_lst h1)
      have HC9 : Hid (z = clL L C) := Lib.hid HZ.out.symm
      clear h1 HP et HZ
      go_wp2_with fail
      go_ret2
      exact ⟨_, by rw [← HC9.out]; rfl, H1.out, h2⟩
end Go.Proofs.Ytbeaoogjcgplnaa
