/-
  Package point: the reference's DistSq, In, Right; all its results of a segment and a point.
-/
import Derived.Test.YtlcenopebgkjgaaPointRef
import Derived.Deep.DeepCutAuto
import Derived.Deep.QuietTactic
import Derived.BigQuiet
namespace Go.Proofs.Ytlcenopebgkjgaa
open Go.RowKit Go.Lib

/-- The results for a segment and a point. -/
structure Pt (px py qx qy cx cy dx dy ux uy d n x y t : Int) : Prop where
  hx : qx - px = dx
  hy : qy - py = dy
  hu : cx - px = ux
  hv : cy - py = uy
  hd : sqP dx dy = d
  hn : paP ux uy dx dy = n
  hX : px + stP dx n d = x
  hY : py + stP dy n d = y
  ht : lsq (x - cx) (y - cy) = t
theorem pt_ex (px py qx qy cx cy : Int) : ∃ dx dy ux uy d n x y t, Pt px py qx qy cx cy dx dy ux uy d n x y t := ⟨_, _, _, _, _, _, _, _, _, ⟨rfl, rfl, rfl, rfl, rfl, rfl, rfl, rfl, rfl⟩⟩
theorem Pt.par {px py qx qy cx cy dx dy ux uy d n x y t : Int} (P : Pt px py qx qy cx cy dx dy ux uy d n x y t) : 0 ≤ n ∧ n ≤ d := by
  have := paP_in ux uy dx dy
  rw [P.hn, P.hd] at this
  exact this
theorem Pt.box {px py qx qy cx cy dx dy ux uy d n x y t : Int} (P : Pt px py qx qy cx cy dx dy ux uy d n x y t) : (min px qx ≤ x ∧ x ≤ max px qx) ∧ (min py qy ≤ y ∧ y ≤ max py qy) := by
  have h := P.par
  have h1 := st_box h.1 h.2 P.hx
  have h2 := st_box h.1 h.2 P.hy
  rw [P.hX] at h1
  rw [P.hY] at h2
  exact ⟨h1, h2⟩
theorem Pt.ind {px py qx qy cx cy dx dy ux uy d n x y t : Int} (P : Pt px py qx qy cx cy dx dy ux uy d n x y t) (H : Rg px py qx qy cx cy) : InD (x - cx) ∧ InD (y - cy) := by
  obtain ⟨h1, h2⟩ := P.box
  obtain ⟨a1, a2, a3, a4, a5, a6, _, _⟩ := H
  unfold InD
  omega
theorem Pt.csq {px py qx qy cx cy dx dy ux uy d n x y t : Int} (P : Pt px py qx qy cx cy dx dy ux uy d n x y t) (H : Rg px py qx qy cx cy) : RSq px py qx qy d := rsq H.hpx H.hpy H.hqx H.hqy (by have := H.hdx; rw [P.hx] at this; exact this) (by have := H.hdy; rw [P.hy] at this; exact this) P.hx P.hy P.hd
theorem Pt.cpa {px py qx qy cx cy dx dy ux uy d n x y t : Int} (P : Pt px py qx qy cx cy dx dy ux uy d n x y t) (H : Rg px py qx qy cx cy) : RPa px py qx qy cx cy n := rpa H P.hx P.hy P.hu P.hv P.hn
theorem Pt.cne {px py qx qy cx cy dx dy ux uy d n x y t : Int} (P : Pt px py qx qy cx cy dx dy ux uy d n x y t) (H : Rg px py qx qy cx cy) : RNe px py qx qy cx cy x y := by
  by_cases hz : d = 0
  · have h1 := P.hX
    have h2 := P.hY
    unfold stP at h1 h2
    rw [if_pos hz] at h1 h2
    rw [← h1, ← h2, Int.add_zero, Int.add_zero]
    exact rne_zero H P.hx P.hy (by rw [P.hd]; exact hz)
  · exact rne_pos H P.hx P.hy P.hu P.hv P.hd hz P.hn rfl rfl P.hX P.hY
/-- A point in range. -/
def inB (x y : Int) : Bool := decide (Cin x ∧ Cin y)
/-- A segment and a point in range. -/
def rgB (px py qx qy cx cy : Int) : Bool := inB px py && inB qx qy && inB cx cy && decide (Din (qx - px) ∧ Din (qy - py))
theorem rgB_iff {px py qx qy cx cy : Int} : rgB px py qx qy cx cy = true ↔ Rg px py qx qy cx cy := by
  unfold rgB inB
  simp only [Bool.and_eq_true, decide_eq_true_iff]
  constructor
  · rintro ⟨⟨⟨⟨h1, h2⟩, h3, h4⟩, h5, h6⟩, h7, h8⟩
    exact ⟨h1, h2, h3, h4, h5, h6, h7, h8⟩
  · rintro ⟨h1, h2, h3, h4, h5, h6, h7, h8⟩
    exact ⟨⟨⟨⟨h1, h2⟩, h3, h4⟩, h5, h6⟩, h7, h8⟩
end Go.Proofs.Ytlcenopebgkjgaa
