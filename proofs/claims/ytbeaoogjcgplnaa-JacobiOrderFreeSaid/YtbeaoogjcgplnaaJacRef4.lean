/-
  Package jacobi: the reference's Solve.
-/
import Derived.Test.YtbeaoogjcgplnaaJacRef3
import Derived.Deep.DeepCutAuto
import Derived.Deep.QuietTactic
import Derived.BigQuiet
namespace Go.Proofs.Ytbeaoogjcgplnaa
open Go.RowKit Go.Lib

theorem asc_mapK {g : Bd → Bd} (hg : ∀ x, (g x).k = x.k) : ∀ {L : List Bd}, Asc L → Asc (L.map g)
  | [], _ => trivial
  | x :: l, h => ⟨fun y hy => by
      obtain ⟨z, hz, rfl⟩ := List.mem_map.1 hy
      rw [hg, hg]
      exact h.1 z hz, asc_mapK hg h.2⟩
theorem slv_asc {C : List Ct} {L : List Bd} (h : Asc L) : ∀ n, Asc (slvN C L n).1
  | 0 => h
  | n + 1 => asc_mapK (g := rndB (slvN C L n).1 C) (fun _ => rfl) (slv_asc h n)
abbrev RSo (L : List Bd) (C : List Ct) : Prop := ∀ v l w, Lst w v L → Sq ctv 5 w l C → Calls Try.prog 15 #[v, l] w fun e w' => ∃ v', e = .returned (.tuple #[v', .bool (slvN C L 4).2]) ∧ Lst w' v' (slvN C L 4).1 ∧ Kep w.heap.size w w'
set_option maxRecDepth 100000 in
set_option maxHeartbeats 4000000 in
theorem rso (L : List Bd) (hm : L.length ≤ 1000) (HV : Hid (∀ x ∈ L, Vb x)) (HA : Hid (Asc L)) (C : List Ct) (hmC : C.length ≤ 100) (HR : Hid (∀ c ∈ C, RgC L c)) : RSo L C := fun v l w h hl => by
  have HRD := Lib.hid (fun k => rrd (slvN C L k).1 (by rw [slv_len]; exact hm) (Lib.hid (slv_vb HV.out k)) (Lib.hid (slv_asc HA.out k)) C hmC (Lib.hid (fun c hc => rgc_slv (HR.out c hc) k)))
  have HQ := Lib.hid hl
  have HL := Lib.hid h
  clear h hl
  go_enter Try.func15, Try.ntmps15
  go_wp2_with fail
  go_loopw [0, 6, 7] (fun v cl i wr => ∃ k : Nat, k ≤ 4 ∧ i = .int .i64 k ∧ (∃ z : Bool, cl = .bool z ∧ Hid ((slvN C L k).2 = z)) ∧ Hid (Lst wr v (slvN C L k).1 ∧ Kep w.heap.size w wr)) (fun _ _ i _ => 4 - (RowKit.intOf i).toNat)
  case atStart => exact ⟨0, by omega, rfl, ⟨false, rfl, Lib.hid rfl⟩, Lib.hid ⟨HL.out, Kep.refl _ _⟩⟩
  case round =>
    obtain ⟨k, hk, rfl, ⟨z, rfl, HZ⟩, HP⟩ := hrel
    by_cases hlt : k < 4
    · have gg := HP.out.2
      have LV := Lib.hid HP.out.1
      obtain ⟨zc, hzc⟩ : ∃ t, t = clL (slvN C L k).1 C := ⟨_, rfl⟩
      have RD := Lib.hid (fun v l w h1 h2 => (show Calls Try.prog 13 #[v, l] w fun e w' => ∃ v', e = .returned (.tuple #[v', .bool zc]) ∧ Lst w' v' (slvN C L (k + 1)).1 ∧ Kep w.heap.size w w' by rw [hzc]; exact HRD.out k v l w h1 h2))
      have HS1 : Hid ((slvN C L (k + 1)).2 = (z || zc)) := Lib.hid (by rw [hzc, ← HZ.out]; rfl)
      clear hzc HP
      have k0 : (0 : Int) ≤ (k : Int) := by omega
      cases z with
      | true =>
        go_wp2_with ((with_reducible refine (RD.out _ _ _ LV.out (HQ.out.kep gg)).mono ?_); rintro e w2 ⟨v2, rfl, l2, g2⟩; replace gg := kep_next gg g2; have L2 := Lib.hid l2; clear l2)
        go_roundw
        case rel => exact ⟨k + 1, by omega, by go_num, ⟨true, rfl, Lib.hid (by rw [HS1.out]; simp)⟩, Lib.hid ⟨L2.out, gg⟩⟩
        case measure => simp [RowKit.intOf]; omega
      | false =>
        go_wp2_with ((with_reducible refine (RD.out _ _ _ LV.out (HQ.out.kep gg)).mono ?_); rintro e w2 ⟨v2, rfl, l2, g2⟩; replace gg := kep_next gg g2; have L2 := Lib.hid l2; clear l2)
        go_roundw
        case rel => exact ⟨k + 1, by omega, by go_num, ⟨zc, rfl, Lib.hid (by rw [HS1.out]; simp)⟩, Lib.hid ⟨L2.out, gg⟩⟩
        case measure => simp [RowKit.intOf]; omega
    · obtain rfl : k = 4 := by omega
      obtain ⟨h1, h2⟩ := HP.out
      have H1 := Lib.hid h1
      clear h1 HP
      go_wp2_with fail
      go_ret2
      exact ⟨_, by rw [HZ.out]; rfl, H1.out, h2⟩
end Go.Proofs.Ytbeaoogjcgplnaa
