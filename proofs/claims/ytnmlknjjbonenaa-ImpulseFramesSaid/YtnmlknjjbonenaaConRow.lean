/-
  A contact as an argument: opened into its five numbers, and shut again.
-/
import Derived.Test.YtnmlknjjbonenaaBodyRow
namespace Go.Proofs.Ytnmlknjjbonenaa
open Go.ChangeShapes Go.WideShapes Go.ChangeAt Go.RowKit Go.Joins

theorem cells_con : Try.prog.cellsOf 28 = 5 := by kernel_rfl
theorem cells_pai : Try.prog.cellsOf 24 = 2 := by kernel_rfl

section
variable {H : Type} {enc : TypeId × Value → H} {W : World} {base : Nat} {spare : Nat → Bool} {held : Bool}
theorem open_pai {n : Nat} {c0 c1 : Value} {y : DataW H × List MemPlace} (h : DataW.trod enc Try.prog W base spare held n 24 [c0, c1] = some y) :
    ∃ a b : Int, c0 = .int .u32 a ∧ c1 = .int .u32 b ∧ y = (.agg [.lit (.int .u32 a), .lit (.int .u32 b)], []) ∧ (Lit.int .u32 a).wf = true ∧ (Lit.int .u32 b).wf = true := by
  obtain ⟨z0, z1, m, hz, _, h0, h1⟩ := trod_struct2 Try.underlying24 h
  have g0 : DataW.trod enc Try.prog W base spare held m 22 [c0] = some z0 := by simpa [cells_u32] using h0
  have g1 : DataW.trod enc Try.prog W base spare held m 22 [c1] = some z1 := by simpa [cells_u32] using h1
  obtain ⟨a, e0, rfl, w0⟩ := DataW.trod_int Try.underlying22 g0
  obtain ⟨b, e1, rfl, w1⟩ := DataW.trod_int Try.underlying22 g1
  simp at e0 e1
  subst e0 e1
  exact ⟨a, b, rfl, rfl, by simpa using hz, w0, w1⟩
theorem shut_pai (m : Nat) {a b : Int} (w0 : (Lit.int .u32 a).wf = true) (w1 : (Lit.int .u32 b).wf = true) :
    DataW.trod enc Try.prog W base spare held (m + 2) 24 [.int .u32 a, .int .u32 b] = some (.agg [.lit (.int .u32 a), .lit (.int .u32 b)], []) := by
  have := trod_struct2_mk (enc := enc) (w := W) (base := base) (spare := spare) (held := held) (n := m + 1) (cs := [.int .u32 a, .int .u32 b]) (y0 := (.lit (.int .u32 a), [])) (y1 := (.lit (.int .u32 b), [])) Try.underlying24 (by simp [cells_pai])
    (by simpa [cells_u32] using trod_int_mk m Try.underlying22 w0) (by simpa [cells_u32] using trod_int_mk m Try.underlying22 w1)
  simpa using this
set_option maxRecDepth 100000 in
/-- Its five cells, wherever they lie. -/
theorem open_con5 {n0 : Nat} {c0 c1 c2 c3 c4 : Value} {y : DataW H × List MemPlace} (h : DataW.trod enc Try.prog W base spare held n0 28 [c0, c1, c2, c3, c4] = some y) :
    ∃ a0 a1 a2 a3 a4 : Int, (c0 = .int .u32 a0 ∧ c1 = .int .u32 a1 ∧ c2 = .int .i32 a2 ∧ c3 = .int .i32 a3 ∧ c4 = .int .i32 a4) ∧ y = (.agg [.agg [.lit (.int .u32 a0), .lit (.int .u32 a1)], .agg [.lit (.int .i32 a2), .lit (.int .i32 a3)], .lit (.int .i32 a4)], []) ∧ (Lit.int .u32 a0).wf = true ∧ (Lit.int .u32 a1).wf = true ∧ (Lit.int .i32 a2).wf = true ∧ (Lit.int .i32 a3).wf = true ∧ (Lit.int .i32 a4).wf = true := by
  obtain ⟨xs, n, _, hx, _, hlen, hg⟩ := DataW.trod_struct Try.underlying28 h
  match xs, hlen with
  | [y0, y1, y2], _ =>
    have g0 : DataW.trod enc Try.prog W base spare held n 24 [c0, c1] = some y0 := by simpa [Value.cells, cells_pai] using hg 0 _ rfl
    have g1 : DataW.trod enc Try.prog W base spare held n 26 [c2, c3] = some y1 := by simpa [Value.cells, cells_vec] using hg 1 _ rfl
    have g2 : DataW.trod enc Try.prog W base spare held n 21 [c4] = some y2 := by simpa [Value.cells, cells_i32] using hg 2 _ rfl
    clear hg h
    obtain ⟨a0, a1, rfl, rfl, rfl, w0, w1⟩ := open_pai g0
    obtain ⟨a2, a3, rfl, rfl, rfl, w2, w3⟩ := open_vec g1
    obtain ⟨a4, e4, rfl, w4⟩ := DataW.trod_int Try.underlying21 g2
    simp at e4
    subst e4
    exact ⟨a0, a1, a2, a3, a4, ⟨rfl, rfl, rfl, rfl, rfl⟩, by simpa using hx, w0, w1, w2, w3, w4⟩
set_option maxRecDepth 100000 in
theorem open_contact {r : Reach} {b0 : Nat} {v : Value} {d : DataW H} {p : List MemPlace} (hv : Value.okWide Try.prog W r b0 28 v) (h : DataW.Trod enc Try.prog W base spare held 28 v d p) :
    ∃ a0 a1 a2 a3 a4 : Int, v = .agg #[.int .u32 a0, .int .u32 a1, .int .i32 a2, .int .i32 a3, .int .i32 a4] ∧ d = .agg [.agg [.lit (.int .u32 a0), .lit (.int .u32 a1)], .agg [.lit (.int .i32 a2), .lit (.int .i32 a3)], .lit (.int .i32 a4)] ∧ p = [] ∧ (Lit.int .u32 a0).wf = true ∧ (Lit.int .u32 a1).wf = true ∧ (Lit.int .i32 a2).wf = true ∧ (Lit.int .i32 a3).wf = true ∧ (Lit.int .i32 a4).wf = true := by
  obtain ⟨cs, rfl, hsz⟩ := okWide_struct Try.underlying28 hv
  rw [cells_con] at hsz
  obtain ⟨l⟩ := cs
  match l, hsz with
  | [c0, c1, c2, c3, c4], _ =>
    obtain ⟨fuel, hf⟩ := h
    obtain ⟨a0, a1, a2, a3, a4, ⟨rfl, rfl, rfl, rfl, rfl⟩, hy, w⟩ := open_con5 hf
    simp only [Prod.mk.injEq] at hy
    exact ⟨a0, a1, a2, a3, a4, rfl, hy.1, hy.2, w⟩
set_option maxRecDepth 100000 in
theorem shut_contact {a0 a1 a2 a3 a4 : Int} (h : (Lit.int .u32 a0).wf = true ∧ (Lit.int .u32 a1).wf = true ∧ (Lit.int .i32 a2).wf = true ∧ (Lit.int .i32 a3).wf = true ∧ (Lit.int .i32 a4).wf = true) : DataW.Trod enc Try.prog W base spare held 28 (.agg #[.int .u32 a0, .int .u32 a1, .int .i32 a2, .int .i32 a3, .int .i32 a4]) (.agg [.agg [.lit (.int .u32 a0), .lit (.int .u32 a1)], .agg [.lit (.int .i32 a2), .lit (.int .i32 a3)], .lit (.int .i32 a4)]) [] := by
  obtain ⟨w0, w1, w2, w3, w4⟩ := h
  have := trod_struct_mk (enc := enc) (w := W) (base := base) (spare := spare) (held := held) (n := 2) (cs := [.int .u32 a0, .int .u32 a1, .int .i32 a2, .int .i32 a3, .int .i32 a4]) (xs := [(.agg [.lit (.int .u32 a0), .lit (.int .u32 a1)], []), (.agg [.lit (.int .i32 a2), .lit (.int .i32 a3)], []), (.lit (.int .i32 a4), [])]) Try.underlying28 (by simp [cells_con])
    (by simp [cells_pai, cells_vec, cells_i32, shut_pai 0 w0 w1, shut_vec 0 w2 w3, trod_int_mk 1 Try.underlying21 w4])
  exact ⟨3, by simpa [Value.cells] using this⟩
end
end Go.Proofs.Ytnmlknjjbonenaa
