/-
  The law PairsMatchesReference: the pairs of a view, the keys within a box, and whether a body is lonely, are those of the slow reference.
-/
import Derived.Test.YtnmnbogjnjbopaaDoorRows
import Derived.Test.YtnmnbogjnjbopaaDoorBodySlice
import Derived.Test.YtnmnbogjnjbopaaDoorPairsFin
import Derived.Test.YtnmnbogjnjbopaaDoorPairsLawM
import Derived.WalkKit
import Derived.ProofKit
import Derived.OpenShut
import Derived.ChangeSame
import Derived.JoinedOf
import Derived.JoinedAt
import Derived.RowKit3
import Derived.Lib.SmallJoins
import Derived.ChangeOld
import Derived.Below
import Derived.Test.YtnmnbogjnjbopaaDoorCards
import Derived.Test.YtnmnbogjnjbopaaDoorTie
import Derived.Deep.DeepHandedRow
import Derived.Lib.LaidTab
namespace Go.Proofs.YtnmnbogjnjbopaaDoor.pairsMatchesReference
open Go.ChangeShapes Go.WideShapes Go.ChangeAt Go.RowKit Go.Joins
set_option linter.unusedVariables false

theorem own : ownKnob Tryd.prog.godebug = none := by kernel_rfl
theorem laidOut : laidOutB Tryd.prog = true := by kernel_rfl
theorem cells47 : Tryd.prog.cellsOf 47 = 4 := by kernel_rfl

theorem gTab : Tryd.prog.globalNamed "billiard/cell.factors" = some 0 := by kernel_rfl
theorem gTabType : (Tryd.prog.globals[0]?).map (·.type) = some 121 := by kernel_rfl
theorem cellsTab : Tryd.prog.cellsOf 121 = 2 := by kernel_rfl
theorem cellsTabE : Tryd.prog.cellsOf 42 = 1 := by kernel_rfl
/-- What the row's list gives: the table's cells. -/
theorem table {W : World} (h : laidMetH Tryd.prog Rows.pairsMatchesReferenceRow.laid W) : Fac W := by
  have t : Lib.TabIs Tryd.prog W "billiard/cell.factors" .u32 [73856093, 19349663] := Lib.tabIs_of_head (rest := []) gTab gTabType Tryd.underlying121 Tryd.underlying42 cellsTabE cellsTab h
  exact ⟨t.cell gTab 0 (by decide), t.cell gTab 1 (by decide)⟩
/-- A world for the witness: the settled one, the table holding what its initialiser lays. -/
noncomputable def laidWorld (os : Os) : World :=
  { World.holding Tryd.prog os ⟨#[], #[], []⟩ with heap := (World.holding Tryd.prog os ⟨#[], #[], []⟩).heap.modify 0 fun
      | .cells _ t frozen => .cells #[.int .u32 73856093, .int .u32 19349663] t frozen
      | o => o }
theorem laid_met (os : Os) : laidMet Tryd.prog Rows.pairsMatchesReferenceRow.laid ((laidWorld os).forCall (fun _ _ => 0) ⟨#[], #[.slice none 0 0, .agg #[.int .i32 0, .int .i32 0, .int .i32 0, .int .i32 0], .int .u32 0], []⟩).memory :=
  laidMet_of_run' 8 (by kernel_rfl) (by kernel_rfl)
theorem reads (os : Os) {H : Type} (enc : TypeId × Value → H) : ∃ places, DataW.whole enc Tryd.prog ((laidWorld os).forCall (fun _ _ => 0) ⟨#[], #[.slice none 0 0, .agg #[.int .i32 0, .int .i32 0, .int .i32 0, .int .i32 0], .int .u32 0], []⟩).memory Tryd.f8.params.toList Rows.pairsMatchesReferenceSpec.vars false (#[.slice none 0 0, .agg #[.int .i32 0, .int .i32 0, .int .i32 0, .int .i32 0], .int .u32 0] : Array Value).toList 8 = some ([.nil, .agg [.lit (.int .i32 0), .lit (.int .i32 0), .lit (.int .i32 0), .lit (.int .i32 0)], .lit (.int .u32 0)], [], places) :=
  ⟨[], by kernel_rfl⟩

set_option maxRecDepth 100000 in
theorem lifted (os : Os) (started : os.Started) (H : Type) (enc : TypeId × Value → H) (F : Stop.Interp) :
    ReturnsInHanded {} Tryd.checked os 8 .any ((OpenSpec.ofChange Rows.pairsMatchesReferenceSpec).preRow enc Tryd.prog Tryd.f8 Rows.pairsMatchesReferenceRow.domain false Rows.pairsMatchesReferenceRow.laid) (((OpenSpec.ofChange Rows.pairsMatchesReferenceSpec).at F).post enc Tryd.prog Tryd.f8 false true false false) := by
  obtain ⟨places, hx⟩ := reads os enc
  refine returnsInHanded_of_row (C := Tryd.checked) (s := OpenSpec.ofChange Rows.pairsMatchesReferenceSpec) own started (by kernel_rfl) Tryd.func8
    (witness_row_at (enc := enc) (C := Tryd.checked) false (laidWorld os) #[.slice none 0 0, .agg #[.int .i32 0, .int .i32 0, .int .i32 0, .int .i32 0], .int .u32 0] rfl (by kernel_rfl) (by kernel_rfl) (by kernel_rfl)
      (OpenSpec.preRow_of_cond 8 hx (by kernel_rfl) (fun k hk => by cases hk) (by kernel_rfl) (laid_met os))) ?_
  intro W base args ds gs before hval0 hW _ _ _ hL _ _
  have F0 : Fac W := table hL
  have hval : ∀ (j : Nat) t v, Tryd.f8.params[j]? = some t → args[j]? = some v → Value.okWide Tryd.prog W .any base t v := hval0
  have hW' := hW
  obtain ⟨p, q, hA0, hV, rfl, hfz, hnd⟩ := hW
  have hA : DataW.TrodAll enc Tryd.prog W 0 (fun _ => true) true Tryd.f8.params.toList args.toList ds p := hA0
  rw [Tryd.params8] at hA hval
  obtain ⟨v0, vs0, d0, ds0, p0, q0, hargs, rfl, rfl, h0, r0⟩ := trodAll_cons hA
  obtain ⟨v1, vs1, d1, ds1, p1, q1, rfl, rfl, rfl, h1, r1⟩ := trodAll_cons r0
  obtain ⟨v2, vs2, d2, ds2, p2, q2, rfl, rfl, rfl, h2, r2⟩ := trodAll_cons r1
  obtain ⟨rfl, rfl, rfl⟩ := trodAll_nil r2
  obtain rfl : args = #[v0, v1, v2] := by cases args; simp_all
  obtain ⟨rfl, rfl⟩ := trodVars_none hV
  obtain ⟨L0, l0, f0, _⟩ := open_bodies (hval 0 55 v0 rfl rfl) h0
  have k0 := h0
  have lt0 : ∀ x ∈ p0, x.block < W.heap.size := by obtain ⟨m, hm⟩ := k0; exact DataW.trod_lt m _ _ _ hm
  obtain ⟨c1_0, c1_1, c1_2, c1_3, y1_0, y1_1, y1_2, y1_3, m1, rfl, rfl, rfl, hy1_0, hy1_1, hy1_2, hy1_3⟩ := open_agg4 Tryd.underlying47 (by kernel_rfl) cells47 (hval 1 47 v1 rfl rfl) h1
  obtain ⟨a1_0, e1_0, rfl, w1_0⟩ := DataW.trod_int Tryd.underlying21 hy1_0
  obtain ⟨a1_1, e1_1, rfl, w1_1⟩ := DataW.trod_int Tryd.underlying21 hy1_1
  obtain ⟨a1_2, e1_2, rfl, w1_2⟩ := DataW.trod_int Tryd.underlying21 hy1_2
  obtain ⟨a1_3, e1_3, rfl, w1_3⟩ := DataW.trod_int Tryd.underlying21 hy1_3
  simp at e1_0 e1_1 e1_2 e1_3
  subst e1_0 e1_1 e1_2 e1_3
  have reads1 : ∀ (W' : World) (sp : Nat → Bool), DataW.Trod enc Tryd.prog W' 0 sp true 47 (.agg #[.int .i32 a1_0, .int .i32 a1_1, .int .i32 a1_2, .int .i32 a1_3]) (.agg [.lit (.int .i32 a1_0), .lit (.int .i32 a1_1), .lit (.int .i32 a1_2), .lit (.int .i32 a1_3)]) [] := fun W' sp =>
    shut_agg4 (y0 := (.lit (.int .i32 a1_0), [])) (y1 := (.lit (.int .i32 a1_1), [])) (y2 := (.lit (.int .i32 a1_2), [])) (y3 := (.lit (.int .i32 a1_3), [])) Tryd.underlying47 (by kernel_rfl) cells47 ⟨1, by simp [DataW.trod, Tryd.underlying21, w1_0]⟩ ⟨1, by simp [DataW.trod, Tryd.underlying21, w1_1]⟩ ⟨1, by simp [DataW.trod, Tryd.underlying21, w1_2]⟩ ⟨1, by simp [DataW.trod, Tryd.underlying21, w1_3]⟩
  obtain ⟨a2, rfl, rfl, rfl, w2⟩ := open_int Tryd.underlying42 (hval 2 42 v2 rfl rfl) h2
  clear hA0 hval0
  have i32_of : ∀ {v : Int}, (Lit.int .i32 v).wf = true → -2147483648 ≤ v ∧ v < 2147483648 := fun h => by have := bounds_i32 h; omega
  have u8_of : ∀ {v : Int}, (Lit.int .u8 v).wf = true → 0 ≤ v ∧ v < 256 := fun h => by have := bounds_u8 h; omega
  have u32_of : ∀ {v : Int}, (Lit.int .u32 v).wf = true → 0 ≤ v ∧ v < 4294967296 := fun h => by have := bounds_u32 h; omega
  have walk : Calls Tryd.prog 8 #[v0, .agg #[.int .i32 a1_0, .int .i32 a1_1, .int .i32 a1_2, .int .i32 a1_3], .int .u32 a2] W fun e w' => e = .returned (.bool true) ∧ Kep W.heap.size W w' := pml_law pops paw a1_0 a1_1 a1_2 a1_3 a2 (i32_of w1_0) (i32_of w1_1) (i32_of w1_2) (i32_of w1_3) w2 L0 v0 W F0 l0 f0
  refine walk.mono fun e W' ⟨he, hg⟩ => ?_
  subst he
  exact ⟨_, rfl, _, _, _, [], _, [], hW', trodAll_mk1 (shut_bool Tryd.underlying4 _), (trodAll_cons_mk (Kep.trod laidOut (by kernel_rfl) (of_decide_eq_true (by kernel_rfl)) k0 hg lt0) (trodAll_cons_mk (reads1 _ _) (trodAll_cons_mk (shut_int Tryd.underlying42 w2) trodAll_mk0))), rfl, hg.frame _, fun h => by cases h⟩

theorem over : Rows.pairsMatchesReferenceRow.holds Tryd.pinned (OpenSpec.ofChange Rows.pairsMatchesReferenceSpec) :=
  OpenClaim.holds_of_cond 8 Tryd.f8 rfl rfl rfl rfl rfl rfl rfl ⟨rfl, rfl, rfl, rfl, rfl⟩ rfl rfl rfl rfl rfl (by kernel_rfl) Tryd.func8 (by kernel_rfl)
    (of_decide_eq_true (by kernel_rfl)) (by unfold Func.isWrapper; first | (rw [if_pos (by decide +kernel)]; kernel_rfl) | (rw [if_neg (by decide +kernel)]; exact ⟨rfl, rfl⟩))
    (fun os started H enc _ F => by rw [OpenClaim.pre_eq_preRow]; exact lifted os started H enc F)
/-- No parameter wants a stand-in. -/
theorem plain (f : FuncId) (fn : Func) (hf : Tryd.pinned.checked.prog.funcNamed "billiard/billiardlaw11.PairsMatchesReference" = some f) (hfn : Tryd.pinned.checked.prog.funcs[f]? = some fn) :
    false = Tryd.pinned.checked.prog.looks [] ∧ ∀ (j : Nat) t, fn.params[j]? = some t → Tryd.pinned.checked.prog.wantsStandIn t = false := by
  obtain rfl : f = 8 := Option.some.inj ((show Tryd.prog.funcNamed "billiard/billiardlaw11.PairsMatchesReference" = some 8 by kernel_rfl).symm.trans hf) |>.symm
  obtain rfl : fn = Tryd.f8 := (Option.some.inj (Tryd.func8.symm.trans hfn)).symm
  refine ⟨by kernel_rfl, fun j t ht => ?_⟩
  rw [Tryd.params8] at ht
  have hm := Array.mem_of_getElem? ht
  simp only [List.mem_toArray, List.mem_cons, List.not_mem_nil, or_false] at hm
  rcases hm with rfl | rfl | rfl
  · exact (show Tryd.prog.wantsStandIn 55 = false by kernel_rfl)
  · exact (show Tryd.prog.wantsStandIn 47 = false by kernel_rfl)
  · exact (show Tryd.prog.wantsStandIn 42 = false by kernel_rfl)
/-- The given statement: the row, its listed variable tied to the program's text. -/
theorem proved : Rows.PairsMatchesReferenceCardSaid :=
  Claim7.holds_tied_plain_at .later [] _ _ _ _ over (fun _ h => by cases h) (by kernel_rfl) (fun _ h => by cases h) pairsMatchesReference_row_tie rfl ⟨rfl, rfl⟩ (by kernel_rfl) rfl plain (by kernel_rfl)
#print axioms proved
end Go.Proofs.YtnmnbogjnjbopaaDoor.pairsMatchesReference
