/-
  A body as an argument: opened into its ten numbers, and shut again.
-/
import Derived.Test.YtllkokfaodpfiaaRows
import Derived.WalkKit
import Derived.ProofKit
import Derived.OpenShut
import Derived.ChangeSame
import Derived.Lib.SmallJoins
namespace Go.Proofs.Ytllkokfaodpfiaa
open Go.ChangeShapes Go.WideShapes Go.ChangeAt Go.RowKit Go.Joins

theorem cells_body : Try.prog.cellsOf 46 = 10 := by kernel_rfl
theorem cells_vec : Try.prog.cellsOf 44 = 2 := by kernel_rfl
theorem cells_u32 : Try.prog.cellsOf 42 = 1 := by kernel_rfl
theorem cells_i32 : Try.prog.cellsOf 21 = 1 := by kernel_rfl

section
variable {H : Type} {enc : TypeId × Value → H} {W : World} {base : Nat} {spare : Nat → Bool} {held : Bool}
theorem open_vec {n : Nat} {c0 c1 : Value} {y : DataW H × List MemPlace} (h : DataW.trod enc Try.prog W base spare held n 44 [c0, c1] = some y) :
    ∃ a b : Int, c0 = .int .i32 a ∧ c1 = .int .i32 b ∧ y = (.agg [.lit (.int .i32 a), .lit (.int .i32 b)], []) ∧ (Lit.int .i32 a).wf = true ∧ (Lit.int .i32 b).wf = true := by
  obtain ⟨z0, z1, m, hz, _, h0, h1⟩ := trod_struct2 Try.underlying44 h
  have g0 : DataW.trod enc Try.prog W base spare held m 21 [c0] = some z0 := by simpa [cells_i32] using h0
  have g1 : DataW.trod enc Try.prog W base spare held m 21 [c1] = some z1 := by simpa [cells_i32] using h1
  obtain ⟨a, e0, rfl, w0⟩ := DataW.trod_int Try.underlying21 g0
  obtain ⟨b, e1, rfl, w1⟩ := DataW.trod_int Try.underlying21 g1
  simp at e0 e1
  subst e0 e1
  exact ⟨a, b, rfl, rfl, by simpa using hz, w0, w1⟩
theorem shut_vec (m : Nat) {a b : Int} (w0 : (Lit.int .i32 a).wf = true) (w1 : (Lit.int .i32 b).wf = true) :
    DataW.trod enc Try.prog W base spare held (m + 2) 44 [.int .i32 a, .int .i32 b] = some (.agg [.lit (.int .i32 a), .lit (.int .i32 b)], []) := by
  have := trod_struct2_mk (enc := enc) (w := W) (base := base) (spare := spare) (held := held) (n := m + 1) (cs := [.int .i32 a, .int .i32 b]) (y0 := (.lit (.int .i32 a), [])) (y1 := (.lit (.int .i32 b), [])) Try.underlying44 (by simp [cells_vec])
    (by simpa [cells_i32] using trod_int_mk m Try.underlying21 w0) (by simpa [cells_i32] using trod_int_mk m Try.underlying21 w1)
  simpa using this

set_option maxRecDepth 100000 in
theorem open_body {r : Reach} {b0 : Nat} {v : Value} {d : DataW H} {p : List MemPlace} (hv : Value.okWide Try.prog W r b0 46 v) (h : DataW.Trod enc Try.prog W base spare held 46 v d p) :
    ∃ a0 a1 a2 a3 a4 a5 a6 a7 a8 a9 : Int, v = .agg #[.int .u32 a0, .int .i32 a1, .int .i32 a2, .int .i32 a3, .int .i32 a4, .int .i32 a5, .int .i32 a6, .int .i32 a7, .int .i32 a8, .int .i32 a9] ∧ d = .agg [.lit (.int .u32 a0), .lit (.int .i32 a1), .agg [.lit (.int .i32 a2), .lit (.int .i32 a3)], .lit (.int .i32 a4), .lit (.int .i32 a5), .agg [.lit (.int .i32 a6), .lit (.int .i32 a7)], .agg [.lit (.int .i32 a8), .lit (.int .i32 a9)]] ∧ p = [] ∧ (Lit.int .u32 a0).wf = true ∧ (Lit.int .i32 a1).wf = true ∧ (Lit.int .i32 a2).wf = true ∧ (Lit.int .i32 a3).wf = true ∧ (Lit.int .i32 a4).wf = true ∧ (Lit.int .i32 a5).wf = true ∧ (Lit.int .i32 a6).wf = true ∧ (Lit.int .i32 a7).wf = true ∧ (Lit.int .i32 a8).wf = true ∧ (Lit.int .i32 a9).wf = true := by
  obtain ⟨cs, rfl, hsz⟩ := okWide_struct Try.underlying46 hv
  rw [cells_body] at hsz
  obtain ⟨l⟩ := cs
  match l, hsz with
  | [c0, c1, c2, c3, c4, c5, c6, c7, c8, c9], _ =>
    obtain ⟨fuel, hf⟩ := h
    obtain ⟨xs, n, _, hx, _, hlen, hg⟩ := DataW.trod_struct Try.underlying46 hf
    match xs, hlen with
    | [y0, y1, y2, y3, y4, y5, y6], _ =>
      simp only [Prod.mk.injEq] at hx
      have g0 : DataW.trod enc Try.prog W base spare held n 42 [c0] = some y0 := by simpa [Value.cells, cells_u32] using hg 0 _ rfl
      have g1 : DataW.trod enc Try.prog W base spare held n 21 [c1] = some y1 := by simpa [Value.cells, cells_i32] using hg 1 _ rfl
      have g2 : DataW.trod enc Try.prog W base spare held n 44 [c2, c3] = some y2 := by simpa [Value.cells, cells_vec] using hg 2 _ rfl
      have g3 : DataW.trod enc Try.prog W base spare held n 21 [c4] = some y3 := by simpa [Value.cells, cells_i32] using hg 3 _ rfl
      have g4 : DataW.trod enc Try.prog W base spare held n 21 [c5] = some y4 := by simpa [Value.cells, cells_i32] using hg 4 _ rfl
      have g5 : DataW.trod enc Try.prog W base spare held n 44 [c6, c7] = some y5 := by simpa [Value.cells, cells_vec] using hg 5 _ rfl
      have g6 : DataW.trod enc Try.prog W base spare held n 44 [c8, c9] = some y6 := by simpa [Value.cells, cells_vec] using hg 6 _ rfl
      clear hg hf hv
      obtain ⟨a0, e0, rfl, w0⟩ := DataW.trod_int Try.underlying42 g0
      obtain ⟨a1, e1, rfl, w1⟩ := DataW.trod_int Try.underlying21 g1
      obtain ⟨a2, a3, rfl, rfl, rfl, w2, w3⟩ := open_vec g2
      obtain ⟨a4, e4, rfl, w4⟩ := DataW.trod_int Try.underlying21 g3
      obtain ⟨a5, e5, rfl, w5⟩ := DataW.trod_int Try.underlying21 g4
      obtain ⟨a6, a7, rfl, rfl, rfl, w6, w7⟩ := open_vec g5
      obtain ⟨a8, a9, rfl, rfl, rfl, w8, w9⟩ := open_vec g6
      simp at e0 e1 e4 e5
      subst e0 e1 e4 e5
      exact ⟨a0, a1, a2, a3, a4, a5, a6, a7, a8, a9, rfl, by simpa using hx.1, by simpa using hx.2, w0, w1, w2, w3, w4, w5, w6, w7, w8, w9⟩

theorem shut_body {a0 a1 a2 a3 a4 a5 a6 a7 a8 a9 : Int} (h : (Lit.int .u32 a0).wf = true ∧ (Lit.int .i32 a1).wf = true ∧ (Lit.int .i32 a2).wf = true ∧ (Lit.int .i32 a3).wf = true ∧ (Lit.int .i32 a4).wf = true ∧ (Lit.int .i32 a5).wf = true ∧ (Lit.int .i32 a6).wf = true ∧ (Lit.int .i32 a7).wf = true ∧ (Lit.int .i32 a8).wf = true ∧ (Lit.int .i32 a9).wf = true) : DataW.Trod enc Try.prog W base spare held 46 (.agg #[.int .u32 a0, .int .i32 a1, .int .i32 a2, .int .i32 a3, .int .i32 a4, .int .i32 a5, .int .i32 a6, .int .i32 a7, .int .i32 a8, .int .i32 a9]) (.agg [.lit (.int .u32 a0), .lit (.int .i32 a1), .agg [.lit (.int .i32 a2), .lit (.int .i32 a3)], .lit (.int .i32 a4), .lit (.int .i32 a5), .agg [.lit (.int .i32 a6), .lit (.int .i32 a7)], .agg [.lit (.int .i32 a8), .lit (.int .i32 a9)]]) [] := by
  obtain ⟨w0, w1, w2, w3, w4, w5, w6, w7, w8, w9⟩ := h
  have := trod_struct_mk (enc := enc) (w := W) (base := base) (spare := spare) (held := held) (n := 2) (cs := [.int .u32 a0, .int .i32 a1, .int .i32 a2, .int .i32 a3, .int .i32 a4, .int .i32 a5, .int .i32 a6, .int .i32 a7, .int .i32 a8, .int .i32 a9]) (xs := [(.lit (.int .u32 a0), []), (.lit (.int .i32 a1), []), (.agg [.lit (.int .i32 a2), .lit (.int .i32 a3)], []), (.lit (.int .i32 a4), []), (.lit (.int .i32 a5), []), (.agg [.lit (.int .i32 a6), .lit (.int .i32 a7)], []), (.agg [.lit (.int .i32 a8), .lit (.int .i32 a9)], [])]) Try.underlying46 (by simp [cells_body])
    (by simp [cells_u32, cells_i32, cells_vec, trod_int_mk 1 Try.underlying42 w0, trod_int_mk 1 Try.underlying21 w1, trod_int_mk 1 Try.underlying21 w4, trod_int_mk 1 Try.underlying21 w5, shut_vec 0 w2 w3, shut_vec 0 w6 w7, shut_vec 0 w8 w9])
  exact ⟨3, by simpa [Value.cells] using this⟩
end
end Go.Proofs.Ytllkokfaodpfiaa
