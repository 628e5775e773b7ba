/-
  Package segment: the documentation's example.
-/
import Derived.Test.YtadbpfmgdjegoaaSegCon
import Derived.Deep.DeepCutAuto
import Derived.Deep.QuietTactic
import Derived.BigQuiet
namespace Go.Proofs.Ytadbpfmgdjegoaa
open Go.RowKit Go.Lib

theorem tw_eq {x : Tw} {a b c d t : Int} (h : x.a = a ∧ x.b = b ∧ x.c = c ∧ x.d = d ∧ x.t = t) : x = ⟨a, b, c, d, t⟩ := by
  obtain ⟨rfl, rfl, rfl, rfl, rfl⟩ := h
  rfl
set_option maxRecDepth 100000 in
set_option maxHeartbeats 4000000 in
theorem seg_awake (O : SOps) : SAwake := fun w => by
  have e : chs 0 0 10 0 4 3 4 9 = ⟨4, 0, 4, 3, 9⟩ := tw_eq (by decide +kernel)
  have C1 := Lib.hid (O.chosen (px := 0) (py := 0) (qx := 10) (qy := 0) (mx := 4) (my := 3) (nx := 4) (ny := 9) (by decide +kernel) e)
  have C2 := Lib.hid (O.dist (px := 0) (py := 0) (qx := 10) (qy := 0) (mx := 4) (my := 3) (nx := 4) (ny := 9) (t := 9) (by decide +kernel) (by rw [e]))
  have v1 := fun w => vec_cmp 4 0 4 0 true (by simp) w
  have v2 := fun w => vec_cmp 4 3 4 3 true (by simp) w
  clear e
  go_enter Try.func8, Try.ntmps8
  go_wp2_with (first
    | ((with_reducible refine (C1.out _).mono ?_); rintro e w1 ⟨rfl, g1⟩
       have gg := kep_next (Kep.refl _ _) g1)
    | ((with_reducible refine (C2.out _).mono ?_); rintro e w2 ⟨rfl, g2⟩
       replace gg := kep_next (kep_more (kep_more gg _) _) g2))
  go_ret
  exact ⟨rfl, gg⟩
end Go.Proofs.Ytadbpfmgdjegoaa
