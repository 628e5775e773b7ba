/-
  The law IntegrateMatchesReference: gravity, motion and pushes have the results of the reference.
-/
import Derived.Test.YtlabeelbbkbkaaaRows
import Derived.Test.YtlabeelbbkbkaaaBodySlice
import Derived.Test.YtlabeelbbkbkaaaShSlice
import Derived.Test.YtlabeelbbkbkaaaIntFin
import Derived.Test.YtlabeelbbkbkaaaIntLawM
import Derived.WalkKit
import Derived.ProofKit
import Derived.OpenShut
import Derived.ChangeSame
import Derived.JoinedOf
import Derived.JoinedAt
import Derived.RowKit3
import Derived.Lib.SmallJoins
import Derived.ChangeOld
import Derived.Below
namespace Go.Proofs.Ytlabeelbbkbkaaa.integrateMatchesReference
open Go.ChangeShapes Go.WideShapes Go.ChangeAt Go.RowKit Go.Joins
set_option linter.unusedVariables false

theorem own : ownKnob Try.prog.godebug = none := by kernel_rfl
theorem laidOut : laidOutB Try.prog = true := by kernel_rfl
theorem cells25 : Try.prog.cellsOf 25 = 2 := by kernel_rfl

set_option maxRecDepth 100000 in
theorem lifted (os : Os) (started : os.Started) (H : Type) (enc : TypeId × Value → H) :
    ReturnsInHanded {} Try.checked os 3 .any (Rows.integrateMatchesReferenceSpec.pre6 enc Try.prog Try.f3 Rows.integrateMatchesReferenceRow.domain false) (Rows.integrateMatchesReferenceSpec.post enc Try.prog Try.f3 false true false false) := by
  refine returnsInHanded_of_change (C := Try.checked) own started (by kernel_rfl) Try.func3
    (ChangeSpec.witness6 (enc := enc) (C := Try.checked) false ⟨#[], #[.slice none 0 0, .slice none 0 0, .agg #[.int .i32 0, .int .i32 0]], []⟩ 8 (by kernel_rfl) (by kernel_rfl) (by kernel_rfl) (by kernel_rfl)) ?_
  intro W base args ds gs before hval0 hW hcnd _
  have hval : ∀ (j : Nat) t v, Try.f3.params[j]? = some t → args[j]? = some v → Value.okWide Try.prog W .any base t v := hval0
  have hW' := hW
  obtain ⟨p, q, hA0, hV, rfl, hfz, hnd⟩ := hW
  have hA : DataW.TrodAll enc Try.prog W 0 (fun _ => true) true Try.f3.params.toList args.toList ds p := hA0
  rw [Try.params3] at hA hval
  obtain ⟨v0, vs0, d0, ds0, p0, q0, hargs, rfl, rfl, h0, r0⟩ := trodAll_cons hA
  obtain ⟨v1, vs1, d1, ds1, p1, q1, rfl, rfl, rfl, h1, r1⟩ := trodAll_cons r0
  obtain ⟨v2, vs2, d2, ds2, p2, q2, rfl, rfl, rfl, h2, r2⟩ := trodAll_cons r1
  obtain ⟨rfl, rfl, rfl⟩ := trodAll_nil r2
  obtain rfl : args = #[v0, v1, v2] := by cases args; simp_all
  obtain ⟨rfl, rfl⟩ := trodVars_none hV
  obtain ⟨L0, l0, f0, _⟩ := open_bodies (hval 0 22 v0 rfl rfl) h0
  have k0 := h0
  have lt0 : ∀ x ∈ p0, x.block < W.heap.size := by obtain ⟨m, hm⟩ := k0; exact DataW.trod_lt m _ _ _ hm
  obtain ⟨L1, l1, f1, m1, c1⟩ := open_shifts (hval 1 23 v1 rfl rfl) h1
  have k1 := h1
  have lt1 : ∀ x ∈ p1, x.block < W.heap.size := by obtain ⟨m, hm⟩ := k1; exact DataW.trod_lt m _ _ _ hm
  obtain ⟨c2_0, c2_1, y2_0, y2_1, m2, rfl, rfl, rfl, hy2_0, hy2_1⟩ := open_agg2 Try.underlying25 (by kernel_rfl) cells25 (hval 2 25 v2 rfl rfl) h2
  obtain ⟨a2_0, e2_0, rfl, w2_0⟩ := DataW.trod_int Try.underlying21 hy2_0
  obtain ⟨a2_1, e2_1, rfl, w2_1⟩ := DataW.trod_int Try.underlying21 hy2_1
  simp at e2_0 e2_1
  subst e2_0 e2_1
  have reads2 : ∀ (W' : World) (sp : Nat → Bool), DataW.Trod enc Try.prog W' 0 sp true 25 (.agg #[.int .i32 a2_0, .int .i32 a2_1]) (.agg [.lit (.int .i32 a2_0), .lit (.int .i32 a2_1)]) [] := fun W' sp =>
    shut_agg2 (y0 := (.lit (.int .i32 a2_0), [])) (y1 := (.lit (.int .i32 a2_1), [])) Try.underlying25 (by kernel_rfl) cells25 ⟨1, by simp [DataW.trod, Try.underlying21, w2_0]⟩ ⟨1, by simp [DataW.trod, Try.underlying21, w2_1]⟩
  clear hA0 hval0
  have i32_of : ∀ {v : Int}, (Lit.int .i32 v).wf = true → -2147483648 ≤ v ∧ v < 2147483648 := fun h => by have := bounds_i32 h; omega
  have u8_of : ∀ {v : Int}, (Lit.int .u8 v).wf = true → 0 ≤ v ∧ v < 256 := fun h => by have := bounds_u8 h; omega
  have u32_of : ∀ {v : Int}, (Lit.int .u32 v).wf = true → 0 ≤ v ∧ v < 4294967296 := fun h => by have := bounds_u32 h; omega
  have walk : Calls Try.prog 3 #[v0, v1, .agg #[.int .i32 a2_0, .int .i32 a2_1]] W fun e w' => e = .returned (.bool true) ∧ Kep W.heap.size W w' := yml_law yops yaw a2_0 a2_1 (i32_of w2_0) (i32_of w2_1) L0 v0 W l0 L1 v1 l1 f0
  refine walk.mono fun e W' ⟨he, hg⟩ => ?_
  subst he
  exact ⟨_, rfl, _, _, _, [], _, [], hW', trodAll_mk1 (shut_bool Try.underlying4 _), (trodAll_cons_mk (Kep.trod laidOut (by kernel_rfl) (of_decide_eq_true (by kernel_rfl)) k0 hg lt0) (trodAll_cons_mk (KepS.trod laidOut (by kernel_rfl) (of_decide_eq_true (by kernel_rfl)) k1 hg lt1) (trodAll_cons_mk (reads2 _ _) trodAll_mk0))), rfl, hg.frame _, fun h => by cases h⟩

theorem over : Rows.integrateMatchesReferenceRow.holds Try.pinned (OpenSpec.ofChange Rows.integrateMatchesReferenceSpec) :=
  OpenClaim.holds_of_wide 3 Try.f3 rfl rfl rfl rfl rfl rfl rfl ⟨rfl, rfl, rfl, rfl, rfl⟩ rfl rfl rfl rfl rfl (by kernel_rfl) Try.func3 (by kernel_rfl)
    (of_decide_eq_true (by kernel_rfl)) (by unfold Func.isWrapper; first | (rw [if_pos (by decide +kernel)]; kernel_rfl) | (rw [if_neg (by decide +kernel)]; exact ⟨rfl, rfl⟩))
    (fun os started H enc _ => lifted os started H enc)

/-- The given statement. -/
theorem proved : Rows.IntegrateMatchesReferenceSaid :=
  over
#print axioms proved
end Go.Proofs.Ytlabeelbbkbkaaa.integrateMatchesReference
