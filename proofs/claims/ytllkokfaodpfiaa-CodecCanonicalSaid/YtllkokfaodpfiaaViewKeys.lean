/-
  Package view's reference: lists of keys; Keys, and Same of two differences.
-/
import Derived.Test.YtllkokfaodpfiaaStoreSame
import Derived.Deep.QuietTactic
import Derived.BigQuiet
namespace Go.Proofs.Ytllkokfaodpfiaa
open Go.RowKit Go.Lib

theorem ret_b {a b : Bool} (h : a = b) : Ending.returned (.bool a) = .returned (.bool b) := by rw [h]
/-- A slice that reads as a list of keys. -/
def KLst (w : World) (v : Value) (K : List Int) : Prop := (K = [] ∧ ∃ base cap, v = .slice base 0 cap) ∨
  ∃ g off cap, v = .slice (some ⟨g, off, none⟩) K.length cap ∧ ∀ (k : Nat) (x : Int), K[k]? = some x → w.cell? ⟨g, off + k, none⟩ = some (.int .u32 x)
theorem KLst.shape {w : World} {v : Value} {K : List Int} (h : KLst w v K) : ∃ base cap, v = .slice base K.length cap := by
  rcases h with ⟨rfl, base, cap, rfl⟩ | ⟨g, off, cap, rfl, _⟩
  · exact ⟨base, cap, rfl⟩
  · exact ⟨_, cap, rfl⟩
theorem KLst.kep {w w' : World} {v : Value} {K : List Int} (h : KLst w v K) (g : Kep w.heap.size w w') : KLst w' v K := by
  rcases h with h | ⟨b, off, cap, rfl, hc⟩
  · exact .inl h
  · exact .inr ⟨b, off, cap, rfl, fun k x hx => g.all (hc k x hx)⟩
theorem KLst.at_ {w : World} {base : Option Addr} {n cap k : Nat} {K : List Int} {x : Int} (h : KLst w (.slice base n cap) K) (hx : K[k]? = some x) : ∃ g off, base = some ⟨g, off, none⟩ ∧ w.cell? ⟨g, off + k, none⟩ = some (.int .u32 x) := by
  rcases h with ⟨rfl, _⟩ | ⟨g, off, c, e, hc⟩
  · simp at hx
  · injection e with e1 e2 e3
    exact ⟨g, off, e1, hc k x hx⟩

/-- A difference: what was added, removed, changed. -/
structure Ch where
  add : List Int
  rem : List Int
  chg : List Int
deriving DecidableEq
def CLst (w : World) (v : Value) (c : Ch) : Prop := ∃ v0 v1 v2, v = .agg #[v0, v1, v2] ∧ KLst w v0 c.add ∧ KLst w v1 c.rem ∧ KLst w v2 c.chg
theorem CLst.kep {w w' : World} {v : Value} {c : Ch} (h : CLst w v c) (g : Kep w.heap.size w w') : CLst w' v c := by
  obtain ⟨v0, v1, v2, rfl, h0, h1, h2⟩ := h
  exact ⟨v0, v1, v2, rfl, h0.kep g, h1.kep g, h2.kep g⟩
theorem box_fst {w : World} {x0 x1 x2 : Value} {t : TypeId} {o : Obj} : ((w.alloc (.cells #[x0, x1, x2] t)).alloc o).cell? ⟨w.heap.size, 1, none⟩ = some x1 ∧ ((w.alloc (.cells #[x0, x1, x2] t)).alloc o).cell? ⟨w.heap.size, 2, none⟩ = some x2 := by
  constructor <;> (rw [World.cell?_alloc_past _ _ _ (by simp), World.cell?_alloc_at _ _ _ _ rfl]; rfl)
theorem box_snd {w : World} {x0 x1 x2 : Value} {t : TypeId} {o : Obj} : ((w.alloc o).alloc (.cells #[x0, x1, x2] t)).cell? ⟨w.heap.size + 1, 1, none⟩ = some x1 ∧ ((w.alloc o).alloc (.cells #[x0, x1, x2] t)).cell? ⟨w.heap.size + 1, 2, none⟩ = some x2 := by
  constructor <;> (rw [World.cell?_alloc_at _ _ _ _ (by simp)]; rfl)
theorem ch_eq {a b : Ch} : a = b ↔ a.add = b.add ∧ a.rem = b.rem ∧ a.chg = b.chg := by
  cases a; cases b; simp
end Go.Proofs.Ytllkokfaodpfiaa
