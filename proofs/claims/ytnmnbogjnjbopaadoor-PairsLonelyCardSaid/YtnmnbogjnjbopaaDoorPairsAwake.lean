/-
  Package pairs: the documentation's examples.
-/
import Derived.Test.YtnmnbogjnjbopaaDoorPairsLow
import Derived.Deep.DeepCutAuto
import Derived.Deep.QuietTactic
import Derived.BigQuiet
namespace Go.Proofs.YtnmnbogjnjbopaaDoor
open Go.RowKit Go.Lib

set_option maxRecDepth 100000 in
set_option maxHeartbeats 1000000 in
theorem circ_any (k x y : Int) (w : World) : Calls Tryd.prog 55 #[.int .u32 k, .int .i32 x, .int .i32 y] w fun e w' => e = .returned (.agg #[.int .u32 k, .int .i32 65536, .int .i32 0, .int .i32 0, .int .i32 0, .int .i32 0, .int .i32 x, .int .i32 y, .int .i32 0, .int .i32 0]) ∧ Kep w.heap.size w w' := by
  go_enter Tryd.func55, Tryd.ntmps55
  go_wp2_with fail
  exact bodyPost_ret (v := .agg #[.int .u32 k, .int .i32 65536, .int .i32 0, .int .i32 0, .int .i32 0, .int .i32 0, .int .i32 x, .int .i32 y, .int .i32 0, .int .i32 0]) (by simp [results, Tryd.results55, go_sem]) rfl ⟨rfl, by repeat first | exact Kep.refl _ _ | refine kep_more ?_ _ | refine kep_set ?_ (by first | (simp; done) | (simp; omega)) _⟩
def exL : List Bd := [⟨1, 65536, 0, 0, 0, 0, 0, 0, 0, 0⟩, ⟨2, 65536, 0, 0, 0, 0, 131072, 131072, 0, 0⟩, ⟨5, 65536, 0, 0, 0, 0, 131073, 0, 0, 0⟩]
def exL1 : List Bd := [⟨1, 65536, 0, 0, 0, 0, 0, 0, 0, 0⟩]
theorem ex_vw : Vw exL := ⟨by unfold exL Asc; simp [Asc], by unfold exL; decide, by unfold exL; decide, by decide⟩
theorem ex_vw1 : Vw exL1 := ⟨by unfold exL1 Asc; simp [Asc], by unfold exL1; decide, by unfold exL1; decide, by decide⟩
theorem ex_pairs : pairsL exL = [(1, 2), (2, 5)] := by decide
theorem ex_with : withL exL 65536 0 65537 0 = [1, 5] := by decide
theorem ex_lon : lonB exL 1 = false ∧ lonB exL 9 = false ∧ lonB exL1 1 = true := by decide
theorem ex_lst (W : World) (b : Nat) (hb : b = W.heap.size) : Lst (W.alloc (.cells #[.int .u32 1, .int .i32 65536, .int .i32 0, .int .i32 0, .int .i32 0, .int .i32 0, .int .i32 0, .int .i32 0, .int .i32 0, .int .i32 0, .int .u32 2, .int .i32 65536, .int .i32 0, .int .i32 0, .int .i32 0, .int .i32 0, .int .i32 131072, .int .i32 131072, .int .i32 0, .int .i32 0, .int .u32 5, .int .i32 65536, .int .i32 0, .int .i32 0, .int .i32 0, .int .i32 0, .int .i32 131073, .int .i32 0, .int .i32 0, .int .i32 0] 69)) (.slice (some ⟨b, 0, none⟩) 3 3) exL := by
  subst hb
  exact .inr ⟨_, 0, 3, rfl, fun k x hx i hi => by
    rw [World.cell?_alloc_at _ _ _ _ rfl]
    rcases k with _ | _ | _ | k
    · simp [exL] at hx; subst hx; rcases i with _ | _ | _ | _ | _ | _ | _ | _ | _ | _ | i <;> first | rfl | omega
    · simp [exL] at hx; subst hx; rcases i with _ | _ | _ | _ | _ | _ | _ | _ | _ | _ | i <;> first | rfl | omega
    · simp [exL] at hx; subst hx; rcases i with _ | _ | _ | _ | _ | _ | _ | _ | _ | _ | i <;> first | rfl | omega
    · simp [exL] at hx⟩
theorem ex_lst1 {w : World} {b : Nat} {m : Nat} (h : Lst w (.slice (some ⟨b, 0, none⟩) 3 3) exL) : Lst w (.slice (some ⟨b, 0, none⟩) 1 m) exL1 := by
  refine .inr ⟨b, 0, m, rfl, fun k x hx i hi => ?_⟩
  rcases k with _ | k
  · simp [exL1] at hx
    obtain ⟨g, off, e, q⟩ := h.at_ (k := 0) (b := x) (by rw [← hx]; rfl)
    injection e with e
    injection e with e1 e2
    subst e1 e2
    exact q i hi
  · simp [exL1] at hx
theorem ex_pr (W : World) (b : Nat) (hb : b = W.heap.size) : Sq pv 2 (W.alloc (.cells #[.int .u32 1, .int .u32 2, .int .u32 2, .int .u32 5] 44)) (.slice (some ⟨b, 0, none⟩) 2 2) [(1, 2), (2, 5)] := sq_new pv_len W _ _ rfl _ b hb 2 2 rfl
theorem ex_ks (W : World) (b : Nat) (hb : b = W.heap.size) : KLst (W.alloc (.cells #[.int .u32 1, .int .u32 5] 42)) (.slice (some ⟨b, 0, none⟩) 2 2) [1, 5] := kv_klst (sq_new kv_len W _ _ rfl _ b hb 2 2 rfl)
set_option maxRecDepth 100000 in
set_option maxHeartbeats 8000000 in
theorem pairs_awake (O : POps) : PAwake := fun w F0 => by
  have CI := Lib.hid circ_any
  have gg : Kep w.heap.size w w := Kep.refl _ _
  have HF := Lib.hid (fun v w f h => (show Calls Tryd.prog 29 #[v] w fun e w' => ∃ v' n, e = .returned (.tuple #[v', .int .i64 n]) ∧ (Sq pv 2 w' v' [(1, 2), (2, 5)] ∧ decide ((2 : Int) ≤ n) = true ∧ decide (n ≤ 3) = true) ∧ Kep w.heap.size w w' from (O.find v exL w f h ex_vw).mono fun e w' ⟨v', n, h1, ⟨h2, h3, h4⟩, h5⟩ => ⟨v', n, h1, ⟨by rw [ex_pairs] at h2; exact h2, decide_eq_true (by rw [ex_pairs] at h3; simpa using h3), decide_eq_true (by have e : exL.length = 3 := rfl; rw [e] at h4; omega)⟩, h5⟩))
  have HW := Lib.hid (fun v w f h => (show Calls Tryd.prog 31 #[v, .agg #[.int .i32 65536, .int .i32 0, .int .i32 65537, .int .i32 0]] w fun e w' => ∃ v', e = .returned v' ∧ KLst w' v' [1, 5] ∧ Kep w.heap.size w w' from (O.within v exL 65536 0 65537 0 w f h ex_vw (by decide) (by decide) (by decide) (by decide)).mono fun e w' ⟨v', h1, h2, h3⟩ => ⟨v', h1, by rw [ex_with] at h2; exact kv_klst h2, h3⟩))
  have HL1 := Lib.hid (fun v w f h => (show Calls Tryd.prog 33 #[v, .int .u32 1] w fun e w' => e = .returned (.bool false) ∧ Kep w.heap.size w w' by have := O.lonely v exL 1 w f h ex_vw (by decide); rw [ex_lon.1] at this; exact this))
  have HL9 := Lib.hid (fun v w f h => (show Calls Tryd.prog 33 #[v, .int .u32 9] w fun e w' => e = .returned (.bool false) ∧ Kep w.heap.size w w' by have := O.lonely v exL 9 w f h ex_vw (by decide); rw [ex_lon.2.1] at this; exact this))
  have HLL := Lib.hid (fun v w f h => (show Calls Tryd.prog 33 #[v, .int .u32 1] w fun e w' => e = .returned (.bool true) ∧ Kep w.heap.size w w' by have := O.lonely v exL1 1 w f h ex_vw1 (by decide); rw [ex_lon.2.2] at this; exact this))
  go_enter Tryd.func28, Tryd.ntmps28
  go_wp2_with (first
    | ((with_reducible refine (CI.out _ _ _ _).mono ?_); rintro e w1 ⟨rfl, g1⟩
       replace gg := kep_next gg g1)
    | ((with_reducible refine (HF.out _ _ (F0.kep (kep_more gg _)) (ex_lst _ _ (by first | rfl | simp))).mono ?_); rintro e w2 ⟨v2, n2, rfl, ⟨q2, d1, d2⟩, g2⟩
       have l1 := (ex_lst _ _ rfl).kep g2
       replace gg := kep_next (kep_more gg _) g2)
    | ((refine (spm [(1, 2), (2, 5)] (by decide) _ _ _ (q2.kep (kep_more (Kep.refl _ _) _)) (ex_pr _ _ (by first | rfl | simp))).mono ?_); rintro e w3 ⟨rfl, g3⟩
       replace l1 := (l1.kep (kep_more (Kep.refl _ _) _)).kep g3
       replace gg := kep_next (kep_more gg _) g3)
    | ((with_reducible refine (HW.out _ _ (F0.kep gg) l1).mono ?_); rintro e w4 ⟨v4, rfl, k4, g4⟩
       replace l1 := l1.kep g4
       replace gg := kep_next gg g4)
    | ((refine (keys_any _ _ [1, 5] [1, 5] _ (k4.kep (kep_more (Kep.refl _ _) _)) (ex_ks _ _ (by first | rfl | simp)) (by decide) true (by simp)).mono ?_); rintro e w5 ⟨rfl, g5⟩
       replace l1 := (l1.kep (kep_more (Kep.refl _ _) _)).kep g5
       replace gg := kep_next (kep_more gg _) g5)
    | ((with_reducible refine (HL1.out _ _ (F0.kep gg) l1).mono ?_); rintro e w6 ⟨rfl, g6⟩
       replace l1 := l1.kep g6
       replace gg := kep_next gg g6)
    | ((with_reducible refine (HL9.out _ _ (F0.kep gg) l1).mono ?_); rintro e w7 ⟨rfl, g7⟩
       replace l1 := l1.kep g7
       replace gg := kep_next gg g7)
    | ((with_reducible refine (HLL.out _ _ (F0.kep gg) (ex_lst1 l1)).mono ?_); rintro e w8 ⟨rfl, g8⟩
       replace gg := kep_next gg g8))
  go_ret
  exact ⟨rfl, gg⟩
end Go.Proofs.YtnmnbogjnjbopaaDoor
