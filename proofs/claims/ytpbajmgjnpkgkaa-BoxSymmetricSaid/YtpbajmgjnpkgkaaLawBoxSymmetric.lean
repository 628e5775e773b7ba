/-
  The law BoxSymmetric: the order of two boxes does not matter, and every box that is not empty overlaps itself.
-/
import Derived.Test.YtpbajmgjnpkgkaaRows
import Derived.Test.YtpbajmgjnpkgkaaBoxFin
import Derived.Test.YtpbajmgjnpkgkaaBoxLawS
import Derived.WalkKit
import Derived.ProofKit
import Derived.OpenShut
import Derived.ChangeSame
import Derived.JoinedOf
import Derived.JoinedAt
import Derived.RowKit3
import Derived.Lib.SmallJoins
namespace Go.Proofs.Ytpbajmgjnpkgkaa.boxSymmetric
open Go.ChangeShapes Go.WideShapes Go.ChangeAt Go.RowKit Go.Joins
set_option linter.unusedVariables false

theorem own : ownKnob Try.prog.godebug = none := by kernel_rfl
theorem cells28 : Try.prog.cellsOf 28 = 4 := by kernel_rfl

set_option maxRecDepth 100000 in
theorem lifted (os : Os) (started : os.Started) (H : Type) (enc : TypeId × Value → H) :
    ReturnsInHanded {} Try.checked os 6 .any (Rows.boxSymmetricSpec.pre6 enc Try.prog Try.f6 Rows.boxSymmetricRow.domain false) (Rows.boxSymmetricSpec.post enc Try.prog Try.f6 false true false false) := by
  refine returnsInHanded_of_change (C := Try.checked) own started (by kernel_rfl) Try.func6
    (ChangeSpec.witness6 (enc := enc) (C := Try.checked) false ⟨#[], #[.agg #[.int .i32 0, .int .i32 0, .int .i32 0, .int .i32 0], .agg #[.int .i32 0, .int .i32 0, .int .i32 0, .int .i32 0]], []⟩ 8 (by kernel_rfl) (by kernel_rfl) (by kernel_rfl) (by kernel_rfl)) ?_
  intro W base args ds gs before hval0 hW hcnd _
  have hval : ∀ (j : Nat) t v, Try.f6.params[j]? = some t → args[j]? = some v → Value.okWide Try.prog W .any base t v := hval0
  have hW' := hW
  obtain ⟨p, q, hA0, hV, rfl, hfz, hnd⟩ := hW
  have hA : DataW.TrodAll enc Try.prog W 0 (fun _ => true) true Try.f6.params.toList args.toList ds p := hA0
  rw [Try.params6] at hA hval
  obtain ⟨v0, vs0, d0, ds0, p0, q0, hargs, rfl, rfl, h0, r0⟩ := trodAll_cons hA
  obtain ⟨v1, vs1, d1, ds1, p1, q1, rfl, rfl, rfl, h1, r1⟩ := trodAll_cons r0
  obtain ⟨rfl, rfl, rfl⟩ := trodAll_nil r1
  obtain rfl : args = #[v0, v1] := by cases args; simp_all
  obtain ⟨rfl, rfl⟩ := trodVars_none hV
  obtain ⟨c0_0, c0_1, c0_2, c0_3, y0_0, y0_1, y0_2, y0_3, m0, rfl, rfl, rfl, hy0_0, hy0_1, hy0_2, hy0_3⟩ := open_agg4 Try.underlying28 (by kernel_rfl) cells28 (hval 0 28 v0 rfl rfl) h0
  obtain ⟨a0_0, e0_0, rfl, w0_0⟩ := DataW.trod_int Try.underlying21 hy0_0
  obtain ⟨a0_1, e0_1, rfl, w0_1⟩ := DataW.trod_int Try.underlying21 hy0_1
  obtain ⟨a0_2, e0_2, rfl, w0_2⟩ := DataW.trod_int Try.underlying21 hy0_2
  obtain ⟨a0_3, e0_3, rfl, w0_3⟩ := DataW.trod_int Try.underlying21 hy0_3
  simp at e0_0 e0_1 e0_2 e0_3
  subst e0_0 e0_1 e0_2 e0_3
  have reads0 : ∀ (W' : World) (sp : Nat → Bool), DataW.Trod enc Try.prog W' 0 sp true 28 (.agg #[.int .i32 a0_0, .int .i32 a0_1, .int .i32 a0_2, .int .i32 a0_3]) (.agg [.lit (.int .i32 a0_0), .lit (.int .i32 a0_1), .lit (.int .i32 a0_2), .lit (.int .i32 a0_3)]) [] := fun W' sp =>
    shut_agg4 (y0 := (.lit (.int .i32 a0_0), [])) (y1 := (.lit (.int .i32 a0_1), [])) (y2 := (.lit (.int .i32 a0_2), [])) (y3 := (.lit (.int .i32 a0_3), [])) Try.underlying28 (by kernel_rfl) cells28 ⟨1, by simp [DataW.trod, Try.underlying21, w0_0]⟩ ⟨1, by simp [DataW.trod, Try.underlying21, w0_1]⟩ ⟨1, by simp [DataW.trod, Try.underlying21, w0_2]⟩ ⟨1, by simp [DataW.trod, Try.underlying21, w0_3]⟩
  obtain ⟨c1_0, c1_1, c1_2, c1_3, y1_0, y1_1, y1_2, y1_3, m1, rfl, rfl, rfl, hy1_0, hy1_1, hy1_2, hy1_3⟩ := open_agg4 Try.underlying28 (by kernel_rfl) cells28 (hval 1 28 v1 rfl rfl) h1
  obtain ⟨a1_0, e1_0, rfl, w1_0⟩ := DataW.trod_int Try.underlying21 hy1_0
  obtain ⟨a1_1, e1_1, rfl, w1_1⟩ := DataW.trod_int Try.underlying21 hy1_1
  obtain ⟨a1_2, e1_2, rfl, w1_2⟩ := DataW.trod_int Try.underlying21 hy1_2
  obtain ⟨a1_3, e1_3, rfl, w1_3⟩ := DataW.trod_int Try.underlying21 hy1_3
  simp at e1_0 e1_1 e1_2 e1_3
  subst e1_0 e1_1 e1_2 e1_3
  have reads1 : ∀ (W' : World) (sp : Nat → Bool), DataW.Trod enc Try.prog W' 0 sp true 28 (.agg #[.int .i32 a1_0, .int .i32 a1_1, .int .i32 a1_2, .int .i32 a1_3]) (.agg [.lit (.int .i32 a1_0), .lit (.int .i32 a1_1), .lit (.int .i32 a1_2), .lit (.int .i32 a1_3)]) [] := fun W' sp =>
    shut_agg4 (y0 := (.lit (.int .i32 a1_0), [])) (y1 := (.lit (.int .i32 a1_1), [])) (y2 := (.lit (.int .i32 a1_2), [])) (y3 := (.lit (.int .i32 a1_3), [])) Try.underlying28 (by kernel_rfl) cells28 ⟨1, by simp [DataW.trod, Try.underlying21, w1_0]⟩ ⟨1, by simp [DataW.trod, Try.underlying21, w1_1]⟩ ⟨1, by simp [DataW.trod, Try.underlying21, w1_2]⟩ ⟨1, by simp [DataW.trod, Try.underlying21, w1_3]⟩
  clear hA0 hval0
  simp only [List.append_nil] at hW'
  have i32_of : ∀ {v : Int}, (Lit.int .i32 v).wf = true → -2147483648 ≤ v ∧ v < 2147483648 := fun h => by have := bounds_i32 h; omega
  have u8_of : ∀ {v : Int}, (Lit.int .u8 v).wf = true → 0 ≤ v ∧ v < 256 := fun h => by have := bounds_u8 h; omega
  have u32_of : ∀ {v : Int}, (Lit.int .u32 v).wf = true → 0 ≤ v ∧ v < 4294967296 := fun h => by have := bounds_u32 h; omega
  have walk : Calls Try.prog 6 #[.agg #[.int .i32 a0_0, .int .i32 a0_1, .int .i32 a0_2, .int .i32 a0_3], .agg #[.int .i32 a1_0, .int .i32 a1_1, .int .i32 a1_2, .int .i32 a1_3]] W fun e w' => e = .returned (.bool true) ∧ Grown W w' := bsl_all baw bops a0_0 a0_1 a0_2 a0_3 a1_0 a1_1 a1_2 a1_3 W
  refine walk.mono fun e W' ⟨he, hg⟩ => ?_
  subst he
  exact ⟨_, rfl, post_of_same (pa := []) (pv := []) hW' (fun _ _ _ => (trodAll_cons_mk (shut_bool Try.underlying4 _) trodAll_mk0)) (fun sp _ => (trodAll_cons_mk (reads0 _ sp) (trodAll_cons_mk (reads1 _ sp) trodAll_mk0))) (fun _ _ => rfl) rfl
    (hg.frame _) hg.2.1 (ok_one (by kernel_rfl) rfl (okWide_bool_mk Try.underlying4 _))⟩

theorem over : Rows.boxSymmetricRow.holds Try.pinned (OpenSpec.ofChange Rows.boxSymmetricSpec) :=
  OpenClaim.holds_of_wide 6 Try.f6 rfl rfl rfl rfl rfl rfl rfl ⟨rfl, rfl, rfl, rfl, rfl⟩ rfl rfl rfl rfl rfl (by kernel_rfl) Try.func6 (by kernel_rfl)
    (of_decide_eq_true (by kernel_rfl)) (by unfold Func.isWrapper; first | (rw [if_pos (by decide +kernel)]; kernel_rfl) | (rw [if_neg (by decide +kernel)]; exact ⟨rfl, rfl⟩))
    (fun os started H enc _ => lifted os started H enc)

/-- The given statement. -/
theorem proved : Rows.BoxSymmetricSaid :=
  over
#print axioms proved
end Go.Proofs.Ytpbajmgjnpkgkaa.boxSymmetric
