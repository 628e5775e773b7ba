/-
  Package jacobi: the documentation's example.
-/
import Derived.Test.YtbeaoogjcgplnaaJacCon
import Derived.Deep.DeepCutAuto
import Derived.Deep.QuietTactic
import Derived.BigQuiet
namespace Go.Proofs.Ytbeaoogjcgplnaa
open Go.RowKit Go.Lib

def exJV : List Bd := [⟨1, 65536, 0, 0, 65536, 65536, 0, 0, 65536, 0⟩, ⟨2, 65536, 0, 0, 65536, 0, 0, 0, (-65536), 0⟩]
def exJW : List Bd := [⟨1, 65536, 0, 0, 65536, 65536, 0, 0, (-65536), 0⟩, ⟨2, 65536, 0, 0, 65536, 0, 0, 0, 65536, 0⟩]
def exJC : List Ct := [⟨1, 2, 65536, 0, 1⟩]
theorem exJ_arg : JArg exJV exJC := by
  refine ⟨⟨by unfold exJV Asc; simp [Asc], by unfold exJV; decide, by unfold exJV; decide, by decide⟩, by decide, fun c hc => ?_⟩
  simp [exJC] at hc
  subst hc
  exact ⟨by decide, by rfl, by rfl, by decide, by decide⟩
theorem exJ_rnd : rndL exJV exJC = exJW := by kernel_rfl
theorem exJ_cl : clL exJV exJC = false := by kernel_rfl
theorem exJ_slv : slvN exJC exJV 4 = (exJW, false) := by kernel_rfl
theorem exJ_sx : exJV.map (sumJ (·.nx) exJV exJC) = [-131072, 131072] := by kernel_rfl
theorem exJ_sy : exJV.map (sumJ (·.ny) exJV exJC) = [0, 0] := by kernel_rfl
theorem exJ_lst (W : World) (b : Nat) (hb : b = W.heap.size) : Lst (W.alloc (.cells #[.int .u32 1, .int .i32 65536, .int .i32 0, .int .i32 0, .int .i32 65536, .int .i32 65536, .int .i32 0, .int .i32 0, .int .i32 65536, .int .i32 0, .int .u32 2, .int .i32 65536, .int .i32 0, .int .i32 0, .int .i32 65536, .int .i32 0, .int .i32 0, .int .i32 0, .int .i32 (-65536), .int .i32 0] 44)) (.slice (some ⟨b, 0, none⟩) 2 2) exJV := by
  subst hb
  exact .inr ⟨_, 0, 2, rfl, fun k x hx i hi => by
    rw [World.cell?_alloc_at _ _ _ _ rfl]
    rcases k with _ | _ | k
    · simp [exJV] at hx; subst hx; rcases i with _ | _ | _ | _ | _ | _ | _ | _ | _ | _ | i <;> first | rfl | omega
    · simp [exJV] at hx; subst hx; rcases i with _ | _ | _ | _ | _ | _ | _ | _ | _ | _ | i <;> first | rfl | omega
    · simp [exJV] at hx⟩
theorem nums_two (W : World) (a b : Int) (t : TypeId) : Sq nv 1 (W.alloc (.cells #[.int .i64 a, .int .i64 b] t)) (.slice (some ⟨W.heap.size, 0, none⟩) 2 2) [a, b] := sq_new nv_len W [a, b] _ rfl _ _ rfl _ _ rfl
theorem exJ_vel {W : World} {g off c : Nat} (h : Lst W (.slice (some ⟨g, off, none⟩) 2 c) exJW) : W.cell? ⟨g, off + 8, none⟩ = some (.int .i32 (-65536)) ∧ W.cell? ⟨g, off + 9, none⟩ = some (.int .i32 0) ∧ W.cell? ⟨g, off + 10 + 8, none⟩ = some (.int .i32 65536) ∧ W.cell? ⟨g, off + 10 + 9, none⟩ = some (.int .i32 0) := by
  obtain ⟨g1, o1, e1, q1⟩ := h.at_ (k := 0) rfl
  obtain ⟨g2, o2, e2, q2⟩ := h.at_ (k := 1) rfl
  injection e1 with e1
  injection e1 with a1 a2
  injection e2 with e2
  injection e2 with b1 b2
  subst a1 a2 b1 b2
  have x1 := q1 8 (by decide)
  have x2 := q1 9 (by decide)
  have x3 := q2 8 (by decide)
  have x4 := q2 9 (by decide)
  simp only [Nat.zero_mul, Nat.one_mul, Nat.add_zero] at x1 x2 x3 x4
  exact ⟨x1, x2, x3, x4⟩
set_option maxRecDepth 100000 in
set_option maxHeartbeats 4000000 in
theorem jac_awake (O : JOps) : JAwake := fun w => by
  have HR := Lib.hid (fun v l w h k => (show Calls Try.prog 12 #[v, l] w fun e w' => ∃ g off c, e = .returned (.tuple #[.slice (some ⟨g, off, none⟩) 2 c, .bool false]) ∧ Lst w' (.slice (some ⟨g, off, none⟩) 2 c) exJW ∧ Kep w.heap.size w w' by
    refine (O.round v exJV l exJC w h k exJ_arg).mono ?_
    rintro e w' ⟨v', rfl, hl, hk⟩
    rw [exJ_rnd] at hl
    rw [exJ_cl]
    rcases hl with ⟨h0, _⟩ | ⟨g, off, c, rfl, hx⟩
    · cases h0
    · exact ⟨g, off, c, rfl, .inr ⟨g, off, c, rfl, hx⟩, hk⟩))
  have HS := Lib.hid (fun v l w h k => (show Calls Try.prog 14 #[v, l] w fun e w' => ∃ v', e = .returned (.tuple #[v', .bool false]) ∧ Lst w' v' exJW ∧ Kep w.heap.size w w' by
    refine (O.solve v exJV l exJC w h k exJ_arg).mono ?_
    rintro e w' ⟨v', rfl, ⟨hl, -⟩, hk⟩
    rw [exJ_slv] at hl ⊢
    exact ⟨v', rfl, hl, hk⟩))
  have HX := Lib.hid (fun v l w h k => (show Calls Try.prog 11 #[v, l] w fun e w' => ∃ v1 v2, e = .returned (.tuple #[v1, v2]) ∧ (Sq nv 1 w' v1 [-131072, 131072] ∧ Sq nv 1 w' v2 [0, 0]) ∧ Kep w.heap.size w w' by
    have := O.sums v exJV l exJC w h k exJ_arg
    rw [exJ_sx, exJ_sy] at this
    exact this))
  have SM := Lib.hid (fun va vb w h1 h2 => same_any va vb exJW w h1 h2 (by decide))
  have N1 := Lib.hid (fun va vb w h1 h2 => rnb [-131072, 131072] (by decide) va vb w h1 h2)
  have N2 := Lib.hid (fun va vb w h1 h2 => rnb [0, 0] (by decide) va vb w h1 h2)
  go_enter Try.func9, Try.ntmps9
  go_upto_region 3 with fail
  generalize hW : World.alloc (World.alloc w _) _ = W2
  have l1 : Lst W2 (.slice (some ⟨w.heap.size, 0, none⟩) 2 2) exJV := by rw [← hW]; exact (exJ_lst _ _ rfl).kep (kep_more (Kep.refl _ _) _)
  have q1 : Sq ctv 5 W2 (.slice (some ⟨w.heap.size + 1, 0, none⟩) 1 1) exJC := by rw [← hW]; exact sq_new ctv_len _ exJC _ rfl _ _ (by simp) _ _ rfl
  have gg : Kep w.heap.size w W2 := by rw [← hW]; exact kep_more (kep_more (Kep.refl _ _) _) _
  clear hW
  go_wp2_with (first
    | ((with_reducible refine (HR.out _ _ _ l1 q1).mono ?_); rintro e w3 ⟨g, off, c, rfl, lr, g3⟩; replace l1 := l1.kep g3; replace q1 := q1.kep g3; replace gg := kep_next gg g3)
    | ((with_reducible refine (HS.out _ _ _ l1 q1).mono ?_); rintro e w4 ⟨v4, rfl, ls, g4⟩; replace l1 := l1.kep g4; replace q1 := q1.kep g4; replace lr := lr.kep g4; replace gg := kep_next gg g4)
    | ((with_reducible refine (HX.out _ _ _ l1 q1).mono ?_); rintro e w5 ⟨v5, v6, rfl, ⟨sx, sy⟩, g5⟩; replace lr := lr.kep g5; replace ls := ls.kep g5; replace gg := kep_next gg g5; obtain ⟨x1, x2, x3, x4⟩ := exJ_vel lr)
    | ((with_reducible refine (SM.out _ _ _ ls lr).mono ?_); rintro e w6 ⟨rfl, g6⟩; replace sx := sx.kep g6; replace sy := sy.kep g6; replace gg := kep_next gg g6)
    | ((with_reducible refine (N1.out _ _ _ (sx.kep (kep_more (Kep.refl _ _) _)) (nums_two _ _ _ _)).mono ?_); rintro e w7 ⟨rfl, g7⟩; replace sy := (sy.kep (kep_more (Kep.refl _ _) _)).kep g7; replace gg := kep_next (kep_more gg _) g7)
    | ((with_reducible refine (N2.out _ _ _ (sy.kep (kep_more (Kep.refl _ _) _)) (nums_two _ _ _ _)).mono ?_); rintro e w8 ⟨rfl, g8⟩; replace gg := kep_next (kep_more gg _) g8))
  go_ret
  exact ⟨rfl, gg⟩
end Go.Proofs.Ytbeaoogjcgplnaa
