/-
  Package grid: the fixed example of its laws.
-/
import Derived.Test.YtnmnbogjnjbopaaDoorGridCon
import Derived.Deep.DeepCutAuto
import Derived.Deep.QuietTactic
import Derived.BigQuiet
namespace Go.Proofs.YtnmnbogjnjbopaaDoor
open Go.RowKit Go.Lib

theorem pair_two (W : World) (t : TypeId) (b : Nat) (hb : b = W.heap.size) : Sq pv 2 (W.alloc (.cells #[.int .u32 3, .int .u32 5, .int .u32 3, .int .u32 9] t)) (.slice (some ⟨b, 0, none⟩) 2 2) [(3, 5), (3, 9)] := sq_new pv_len W _ _ rfl t b hb 2 2 rfl
theorem key_two (W : World) (t : TypeId) (b : Nat) (hb : b = W.heap.size) : Sq kv 1 (W.alloc (.cells #[.int .u32 3, .int .u32 9] t)) (.slice (some ⟨b, 0, none⟩) 2 2) [3, 9] := sq_new kv_len W _ _ rfl t b hb 2 2 rfl
theorem ex_cand : candL [⟨9, 0, 0, 5, 5⟩, ⟨3, 7, 7, 4194304, 8⟩, ⟨5, 4194304, 0, 4194305, 3⟩] = [(3, 5), (3, 9)] := by decide +kernel
theorem ex_at : atL [⟨9, 0, 0, 5, 5⟩, ⟨3, 7, 7, 4194304, 8⟩, ⟨5, 4194304, 0, 4194305, 3⟩] (bktN (colN 100) (colN 0)) = [3, 9] := by decide +kernel
set_option maxRecDepth 100000 in
set_option maxHeartbeats 1000000 in
theorem grid_awake {GI : World → Nat → (Nat → Prop) → List Ent → Prop} (O : GOps GI) : GAwake := fun w F0 => by
  have E1 : EntOk ⟨9, 0, 0, 5, 5⟩ := ⟨by decide, by unfold FitE In3; decide, by decide +kernel⟩
  have E2 : EntOk ⟨3, 7, 7, 4194304, 8⟩ := ⟨by decide, by unfold FitE In3; decide, by decide +kernel⟩
  have E3 : EntOk ⟨5, 4194304, 0, 4194305, 3⟩ := ⟨by decide, by unfold FitE In3; decide, by decide +kernel⟩
  have EA : Hid (∀ x ∈ ([⟨9, 0, 0, 5, 5⟩, ⟨3, 7, 7, 4194304, 8⟩, ⟨5, 4194304, 0, 4194305, 3⟩] : List Ent), EntOk x) := Lib.hid (fun x hx => by
    simp only [List.mem_cons, List.not_mem_nil, or_false] at hx
    rcases hx with rfl | rfl | rfl
    · exact E1
    · exact E2
    · exact E3)
  have t1 : True := trivial
  have t2 : True := trivial
  go_enter Tryd.func13, Tryd.ntmps13
  go_wp2_with (first
    | ((have _t := t1); refine (O.insert w.heap.size (fun j => j = w.heap.size) [] ⟨9, 0, 0, 5, 5⟩ _ (O.new w F0) E1 (by simp)).mono ?_; rintro e w1 ⟨⟨u1, rfl⟩, S1, g1, m1, o1⟩
       have hz : (w.alloc (.cells Tryd.zeroCells30 30)).heap.size = w.heap.size + 1 := by simp
       have gg : Kep w.heap.size w w1 := (kep_more (Kep.refl _ _) _).trans (o1.kep (by rw [hz]; omega) (fun k q => by omega))
       have s1 : Hid (∀ j, S1 j → w.heap.size ≤ j) := Lib.hid (fun j q => by rcases m1 j q with q | q; omega; rw [hz] at q; omega)
       clear o1 m1 hz t1 _t)
    | (refine (O.insert w.heap.size S1 ([] ++ [⟨9, 0, 0, 5, 5⟩]) ⟨3, 7, 7, 4194304, 8⟩ _ g1 E2 (by simp)).mono ?_; rintro e w2 ⟨⟨u2, rfl⟩, S2, g2, m1, o1⟩
       have s2 : Hid (∀ j, S2 j → w.heap.size ≤ j) := Lib.hid (fun j q => by rcases m1 j q with q | q; exact s1.out j q; have := gg.size; omega)
       replace gg := gg.trans (o1.kep gg.size (fun k q => s1.out k q))
       clear o1 m1 g1 s1)
    | (refine (O.insert w.heap.size S2 ([] ++ [⟨9, 0, 0, 5, 5⟩] ++ [⟨3, 7, 7, 4194304, 8⟩]) ⟨5, 4194304, 0, 4194305, 3⟩ _ g2 E3 (by simp)).mono ?_; rintro e w3 ⟨⟨u3, rfl⟩, S3, g3, m1, o1⟩
       have s3 : Hid (∀ j, S3 j → w.heap.size ≤ j) := Lib.hid (fun j q => by rcases m1 j q with q | q; exact s2.out j q; have := gg.size; omega)
       replace gg := gg.trans (o1.kep gg.size (fun k q => s2.out k q))
       clear o1 m1 g2 s2
       have h3 : GI w3 w.heap.size S3 [⟨9, 0, 0, 5, 5⟩, ⟨3, 7, 7, 4194304, 8⟩, ⟨5, 4194304, 0, 4194305, 3⟩] := g3
       clear g3 s3)
    | ((have _t := t2); refine (O.cand w.heap.size S3 _ _ h3 EA.out (by simp)).mono ?_; rintro e w4 ⟨c1, rfl, ⟨qc, _⟩, k4⟩
       replace h3 := O.kep h3 k4
       replace gg := kep_next gg k4
       rw [ex_cand] at qc
       clear t2 _t)
    | (refine (spm [(3, 5), (3, 9)] (by simp) _ _ _ (qc.kep (kep_more (Kep.refl _ _) _)) (pair_two _ _ _ (by first | rfl | simp))).mono ?_; rintro e w5 ⟨rfl, k5⟩
       replace h3 := O.kep h3 (kep_next (kep_more (Kep.refl _ _) _) k5)
       replace gg := kep_next (kep_more gg _) k5
       clear qc)
    | (refine (O.at_ w.heap.size S3 _ 100 0 _ h3 EA.out (by simp) (by unfold In3; decide) (by unfold In3; decide)).mono ?_; rintro e w6 ⟨c2, rfl, ⟨qk, _⟩, k6⟩
       replace h3 := O.kep h3 k6
       replace gg := kep_next gg k6
       rw [ex_at] at qk)
    | (refine (keys_any _ _ _ _ _ (keyS.klst (qk.kep (kep_more (Kep.refl _ _) _))) (keyS.klst (key_two _ _ _ (by first | rfl | simp))) (by simp) true (by simp)).mono ?_; rintro e w7 ⟨rfl, k7⟩
       replace h3 := O.kep h3 (kep_next (kep_more (Kep.refl _ _) _) k7)
       replace gg := kep_next (kep_more gg _) k7
       clear qk)
    | (refine (O.lenNil _).mono ?_; rintro e w9 ⟨rfl, k9⟩
       replace gg := kep_next gg k9)
    | (refine (O.candNil _).mono ?_; rintro e wA ⟨c3, rfl, ⟨qn, _⟩, kA⟩
       replace gg := kep_next gg kA
       obtain ⟨b3, m3, rfl, _⟩ := qn)
    | (refine (O.len w.heap.size S3 _ _ h3 (by simp)).mono ?_; rintro e w8 ⟨rfl, k8⟩
       replace gg := kep_next gg k8))
  go_ret
  exact ⟨rfl, gg⟩
end Go.Proofs.YtnmnbogjnjbopaaDoor
