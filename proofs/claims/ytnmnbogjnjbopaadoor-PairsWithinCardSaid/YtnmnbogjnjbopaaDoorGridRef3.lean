/-
  Package grid: the reference's SamePairs; the laws' has.
-/
import Derived.Test.YtnmnbogjnjbopaaDoorGridRef2
import Derived.Deep.DeepCutAuto
import Derived.Deep.QuietTactic
import Derived.BigQuiet
namespace Go.Proofs.YtnmnbogjnjbopaaDoor
open Go.RowKit Go.Lib

set_option maxRecDepth 100000 in
set_option maxHeartbeats 2000000 in
theorem spm (L : List (Int × Int)) (hm : L.length ≤ 1000000000) (va vb : Value) (w : World) (h1 : Sq pv 2 w va L) (h2 : Sq pv 2 w vb L) : Calls Tryd.prog 17 #[va, vb] w fun e w' => e = .returned (.bool true) ∧ Kep w.heap.size w w' := by
  obtain ⟨b1, c1, rfl, H1⟩ := h1
  obtain ⟨b2, c2, rfl, H2⟩ := h2
  have G1 := Lib.hid H1
  have G2 := Lib.hid H2
  clear H1 H2
  generalize hn : L.length = n at *
  have HN := Lib.hid hn
  clear hn
  go_enter Tryd.func17, Tryd.ntmps17
  go_wp2_with fail
  go_loopw [5] (fun i wr => ∃ k : Nat, k ≤ n ∧ i = .int .i64 k ∧ ∃ j, wr = w.drewN j) (fun i _ => n - (RowKit.intOf i).toNat)
  case atStart => exact ⟨0, by omega, rfl, 0, rfl⟩
  case round =>
    obtain ⟨k, hk, rfl, j, rfl⟩ := hrel
    by_cases hlt : k < n
    · have hb : L[k]? = some (L[k]'(by rw [HN.out]; exact hlt)) := List.getElem?_eq_getElem _
      generalize L[k]'(by rw [HN.out]; exact hlt) = x at hb
      obtain ⟨g1, o1, rfl, q1⟩ := G1.out k x hb
      obtain ⟨g2, o2, rfl, q2⟩ := G2.out k x hb
      obtain ⟨x1, x2⟩ := x
      have f0 : w.cell? ⟨g1, o1 + k * 2, none⟩ = some (.int .u32 x1) := q1 0 _ rfl
      have f1 : w.cell? ⟨g1, o1 + k * 2 + 1, none⟩ = some (.int .u32 x2) := q1 1 _ rfl
      have f2 : w.cell? ⟨g2, o2 + k * 2, none⟩ = some (.int .u32 x1) := q2 0 _ rfl
      have f3 : w.cell? ⟨g2, o2 + k * 2 + 1, none⟩ = some (.int .u32 x2) := q2 1 _ rfl
      have v1 := fun w => pair_ncmp x1 x2 x1 x2 true (by simp) w
      clear hb q1 q2
      go_wp2_with fail
      go_quiet (fail)
      go_wp2_with fail
      go_roundw
      case rel => exact ⟨k + 1, by omega, by go_num, _, rfl⟩
      case measure => simp [RowKit.intOf]; omega
    · go_wp2_with fail
      go_ret
      exact ⟨rfl, kep_grownN _ _⟩
theorem pair_any {L : List (Int × Int)} {pa pb : Int} {k : Nat} {x : Int × Int} (h : L[k]? = some x) : (L.drop k).contains (pa, pb) = (decide (x.1 = pa ∧ x.2 = pb) || (L.drop (k + 1)).contains (pa, pb)) := by
  obtain ⟨hk, e⟩ := List.getElem?_eq_some_iff.1 h
  rw [List.drop_eq_getElem_cons hk, e]
  obtain ⟨a, b⟩ := x
  by_cases c : a = pa ∧ b = pb
  · obtain ⟨rfl, rfl⟩ := c
    simp
  · rw [decide_eq_false c, List.contains_cons]
    have : ((pa, pb) == (a, b)) = false := beq_eq_false_iff_ne.2 (fun e => c (by injection e with e1 e2; exact ⟨e1.symm, e2.symm⟩))
    rw [this]
abbrev RHa (L : List (Int × Int)) (pa pb : Int) (z : Bool) : Prop := ∀ v w, Sq pv 2 w v L → Calls Tryd.prog 25 #[v, .agg #[.int .u32 pa, .int .u32 pb]] w fun e w' => e = .returned (.bool z) ∧ Kep w.heap.size w w'
set_option maxRecDepth 100000 in
set_option maxHeartbeats 2000000 in
theorem rha (L : List (Int × Int)) (pa pb : Int) (hm : L.length ≤ 1000000000) : RHa L pa pb (L.contains (pa, pb)) := fun v w h => by
  obtain ⟨b, c, rfl, H⟩ := h
  have HC := Lib.hid H
  clear H
  generalize hl : L.length = len at *
  have HN := Lib.hid hl
  clear hl
  go_enter Tryd.func25, Tryd.ntmps25
  go_wp2_with fail
  obtain ⟨W1, hW1⟩ : ∃ W1, W1 = w.alloc (.cells #[.int .u32 pa, .int .u32 pb] 44) := ⟨_, rfl⟩
  rw [← hW1]
  have p0 : W1.cell? ⟨w.heap.size, 0, none⟩ = some (.int .u32 pa) := by rw [hW1, World.cell?_alloc_at _ _ _ _ (by simp)]; rfl
  have p1 : W1.cell? ⟨w.heap.size, 1, none⟩ = some (.int .u32 pb) := by rw [hW1, World.cell?_alloc_at _ _ _ _ (by simp)]; rfl
  have K0 := Lib.hid (show Kep w.heap.size w W1 by rw [hW1]; exact kep_more (Kep.refl _ _) _)
  clear hW1
  go_loopw [5] (fun i wr => ∃ k : Nat, k ≤ len ∧ i = .int .i64 k ∧ Hid (L.contains (pa, pb) = (L.drop k).contains (pa, pb)) ∧ ∃ j, wr = W1.drewN j) (fun i _ => len - (RowKit.intOf i).toNat)
  case atStart => exact ⟨0, by omega, rfl, Lib.hid (by simp), 0, rfl⟩
  case round =>
    obtain ⟨k, hk, rfl, HP, j, rfl⟩ := hrel
    by_cases hlt : k < len
    · have hb : L[k]? = some (L[k]'(by rw [HN.out]; exact hlt)) := List.getElem?_eq_getElem _
      generalize L[k]'(by rw [HN.out]; exact hlt) = x at hb
      obtain ⟨gl, off, rfl, q⟩ := HC.out k x hb
      obtain ⟨ta, tb⟩ := x
      have t0 : W1.cell? ⟨gl, off + k * 2, none⟩ = some (.int .u32 ta) := K0.out.all (q 0 _ rfl)
      have t1 : W1.cell? ⟨gl, off + k * 2 + 1, none⟩ = some (.int .u32 tb) := K0.out.all (q 1 _ rfl)
      have HQ := Lib.hid (pair_any (pa := pa) (pb := pb) hb)
      clear hb q
      obtain ⟨z, hz⟩ : ∃ z, decide (ta = pa ∧ tb = pb) = z := ⟨_, rfl⟩
      have vv := fun w => pair_cmp ta tb pa pb z hz w
      have HZ := Lib.hid hz
      clear hz
      cases z
      · go_wp2_with fail
        go_quiet (fail)
        go_wp2_with fail
        go_roundw
        case rel => exact ⟨k + 1, by omega, by go_num, Lib.hid (by rw [HP.out, HQ.out, HZ.out]; rfl), _, rfl⟩
        case measure => simp [RowKit.intOf]; omega
      · go_wp2_with fail
        go_quiet (fail)
        go_wp2_with fail
        go_ret
        exact ⟨by rw [HP.out, HQ.out, HZ.out]; rfl, K0.out.trans (kep_drewN (kep_drewN (Kep.refl _ _) _) _)⟩
    · go_wp2_with fail
      go_ret
      exact ⟨by rw [HP.out, List.drop_of_length_le (by rw [HN.out]; omega)]; rfl, K0.out.trans (kep_drewN (Kep.refl _ _) _)⟩
end Go.Proofs.YtnmnbogjnjbopaaDoor
