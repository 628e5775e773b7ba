/-
  Package integrate: gravity, motion and pushes as numbers (no program).
-/
import Derived.Test.YtlabeelbbkbkaaaJ04PointRef
import Derived.Test.YtlabeelbbkbkaaaJ05BoxMath
namespace Go.Proofs.Ytlabeelbbkbkaaa
open Go.RowKit Go.Lib

def limW (n : Int) : Int := max (-1073741824) (min n 1073741824)
theorem limW_bd (n : Int) : -1073741824 ≤ limW n ∧ limW n ≤ 1073741824 := by unfold limW; omega
theorem limW_id {n : Int} (h : -1073741824 ≤ n ∧ n ≤ 1073741824) : limW n = n := by unfold limW; omega
theorem limJ_eq (n : Int) : lim n 16777216 = limJ n := rfl
theorem limW_eq (n : Int) : lim n 1073741824 = limW n := rfl
/-- A body at another place. -/
def plB (x : Bd) (a b : Int) : Bd := ⟨x.k, x.r, x.ax, x.ay, x.m, x.o, a, b, x.vx, x.vy⟩
/-- A body behind gravity, and whether a limit changed its velocity. -/
def grvY (x : Bd) : Int := x.vy - 1024
def grvB (x : Bd) : Bd := if 0 < x.m then velB x x.vx (limJ (grvY x)) else x
def grvC (x : Bd) : Bool := decide (0 < x.m) && decide (limJ (grvY x) ≠ grvY x)
/-- A body behind its motion. -/
def mtX (x : Bd) (s : Sh) : Int := x.px + s.1 + x.vx / 64
def mtY (x : Bd) (s : Sh) : Int := x.py + s.2 + x.vy / 64
def mtB (x : Bd) (s : Sh) : Bd := plB x (limW (mtX x s)) (limW (mtY x s))
def mtC (x : Bd) (s : Sh) : Bool := decide (limW (mtX x s) ≠ mtX x s) || decide (limW (mtY x s) ≠ mtY x s)
/-- A body behind a push. -/
def psX (x : Bd) (j : Int) : Int := x.vx + j * x.m / 65536
def psY (x : Bd) (j : Int) : Int := x.vy + j * x.m / 65536
def psB (x : Bd) (j k : Int) : Bd := velB x (limJ (psX x j)) (limJ (psY x k))
def psC (x : Bd) (j k : Int) : Bool := decide (limJ (psX x j) ≠ psX x j) || decide (limJ (psY x k) ≠ psY x k)
/-- What a component of a shift may be. -/
abbrev Si (n : Int) : Prop := -4611686018427387904 ≤ n ∧ n ≤ 4611686018427387904
abbrev Sin (s : Sh) : Prop := Si s.1 ∧ Si s.2
/-- What the rules of a body say of its place and velocity. -/
structure Pb (x : Bd) : Prop where
  px0 : -1073741824 ≤ x.px
  px1 : x.px ≤ 1073741824
  py0 : -1073741824 ≤ x.py
  py1 : x.py ≤ 1073741824
theorem chk_six {r ax ay m o px py vx vy : Int} (h : chk r ax ay m o px py vx vy = 0) : (4096 ≤ r ∧ r ≤ 4194304) ∧ ((-4194304 ≤ ax ∧ ax ≤ 4194304) ∧ (-4194304 ≤ ay ∧ ay ≤ 4194304)) ∧ (0 ≤ m ∧ m ≤ 1048576) ∧ (0 ≤ o ∧ o ≤ 65536) ∧ ((-1073741824 ≤ px ∧ px ≤ 1073741824) ∧ (-1073741824 ≤ py ∧ py ≤ 1073741824)) ∧ ((-16777216 ≤ vx ∧ vx ≤ 16777216) ∧ (-16777216 ≤ vy ∧ vy ≤ 16777216)) := by
  unfold chk at h
  repeat' split at h
  all_goals first
    | exact absurd h (by decide)
    | (rename_i a1 a2 a3 a4 a5 a6; exact ⟨a1, a2, a3, a4, a5, a6⟩)
theorem chk_mk {r ax ay m o px py vx vy : Int} (h : (4096 ≤ r ∧ r ≤ 4194304) ∧ ((-4194304 ≤ ax ∧ ax ≤ 4194304) ∧ (-4194304 ≤ ay ∧ ay ≤ 4194304)) ∧ (0 ≤ m ∧ m ≤ 1048576) ∧ (0 ≤ o ∧ o ≤ 65536) ∧ ((-1073741824 ≤ px ∧ px ≤ 1073741824) ∧ (-1073741824 ≤ py ∧ py ≤ 1073741824)) ∧ ((-16777216 ≤ vx ∧ vx ≤ 16777216) ∧ (-16777216 ≤ vy ∧ vy ≤ 16777216))) : chk r ax ay m o px py vx vy = 0 := by
  obtain ⟨h1, h2, h3, h4, h5, h6⟩ := h
  unfold chk
  rw [if_pos h1, if_pos h2, if_pos h3, if_pos h4, if_pos h5, if_pos h6]
theorem pb_of {x : Bd} (h : okI x) : Pb x := by
  obtain ⟨_, _, _, _, h5, _⟩ := chk_six h
  exact ⟨h5.1.1, h5.1.2, h5.2.1, h5.2.2⟩
theorem ok_vel {x : Bd} {a b : Int} (h : okI x) (ha : -16777216 ≤ a ∧ a ≤ 16777216) (hb : -16777216 ≤ b ∧ b ≤ 16777216) : okI (velB x a b) := by
  obtain ⟨h1, h2, h3, h4, h5, _⟩ := chk_six h
  exact chk_mk ⟨h1, h2, h3, h4, h5, ha, hb⟩
theorem ok_pl {x : Bd} {a b : Int} (h : okI x) (ha : -1073741824 ≤ a ∧ a ≤ 1073741824) (hb : -1073741824 ≤ b ∧ b ≤ 1073741824) : okI (plB x a b) := by
  obtain ⟨h1, h2, h3, h4, _, h6⟩ := chk_six h
  exact chk_mk ⟨h1, h2, h3, h4, ⟨ha, hb⟩, h6⟩
theorem ok_grv {x : Bd} (h : okI x) : okI (grvB x) := by
  unfold grvB
  split
  · obtain ⟨_, _, _, _, _, h6⟩ := chk_six h
    exact ok_vel h h6.1 (limJ_bd _)
  · exact h
theorem ok_mv {x : Bd} (s : Sh) (h : okI x) : okI (mtB x s) := ok_pl h (limW_bd _) (limW_bd _)
theorem ok_ps {x : Bd} (j k : Int) (h : okI x) : okI (psB x j k) := ok_vel h (limJ_bd _) (limJ_bd _)
theorem grvY_bd {x : Bd} (h : Vb x) : -16778240 ≤ grvY x ∧ grvY x ≤ 16776192 := by
  have := h.vy0; have := h.vy1
  unfold grvY
  omega
theorem mtX_bd {x : Bd} {s : Sh} (h : Vb x) (p : Pb x) (hs : Sin s) : -9223372036854775808 ≤ mtX x s ∧ mtX x s ≤ 9223372036854775807 ∧ -9223372036854775808 ≤ x.px + s.1 ∧ x.px + s.1 ≤ 9223372036854775807 ∧ -262144 ≤ x.vx / 64 ∧ x.vx / 64 ≤ 262144 := by
  have := h.vx0; have := h.vx1; have := p.px0; have := p.px1; have := hs.1.1; have := hs.1.2
  unfold mtX
  omega
theorem mtY_bd {x : Bd} {s : Sh} (h : Vb x) (p : Pb x) (hs : Sin s) : -9223372036854775808 ≤ mtY x s ∧ mtY x s ≤ 9223372036854775807 ∧ -9223372036854775808 ≤ x.py + s.2 ∧ x.py + s.2 ≤ 9223372036854775807 ∧ -262144 ≤ x.vy / 64 ∧ x.vy / 64 ≤ 262144 := by
  have := h.vy0; have := h.vy1; have := p.py0; have := p.py1; have := hs.2.1; have := hs.2.2
  unfold mtY
  omega
theorem ps_bd {j m v : Int} (hj : -2147483648 ≤ j ∧ j < 2147483648) (hm : 0 ≤ m ∧ m ≤ 1048576) (hv : -16777216 ≤ v ∧ v ≤ 16777216) : (-2251799813685248 ≤ j * m ∧ j * m ≤ 2251799813685248) ∧ (-34359738368 ≤ j * m / 65536 ∧ j * m / 65536 ≤ 34359738368) ∧ (-34376515584 ≤ v + j * m / 65536 ∧ v + j * m / 65536 ≤ 34376515584) := by
  have p := mul_bd (a := j) (b := m) (A := 2147483648) (B := 1048576) ⟨by omega, by omega⟩ ⟨by omega, by omega⟩
  omega
/-- Views and lists of shifts, body by body. -/
def mtL (L : List Bd) (S : List Sh) : List Bd := List.zipWith mtB L S
def mtA (L : List Bd) (S : List Sh) : List Bool := List.zipWith mtC L S
theorem mtL_len {L : List Bd} {S : List Sh} (h : S.length = L.length) : (mtL L S).length = L.length := by
  unfold mtL
  rw [List.length_zipWith, h, Nat.min_self]
theorem mtL_at {L : List Bd} {S : List Sh} {k : Nat} {x : Bd} {s : Sh} (hx : L[k]? = some x) (hs : S[k]? = some s) : (mtL L S)[k]? = some (mtB x s) := by
  unfold mtL
  rw [List.getElem?_zipWith, hx, hs]
theorem mtA_at {L : List Bd} {S : List Sh} {k : Nat} {x : Bd} {s : Sh} (hx : L[k]? = some x) (hs : S[k]? = some s) : (mtA L S)[k]? = some (mtC x s) := by
  unfold mtA
  rw [List.getElem?_zipWith, hx, hs]
theorem mtA_len {L : List Bd} {S : List Sh} (h : S.length = L.length) : (mtA L S).length = L.length := by
  unfold mtA
  rw [List.length_zipWith, h, Nat.min_self]
theorem mtL_mem {L : List Bd} {S : List Sh} {y : Bd} (h : y ∈ mtL L S) : ∃ x s, x ∈ L ∧ s ∈ S ∧ y = mtB x s := by
  obtain ⟨k, hk⟩ := List.mem_iff_getElem?.1 h
  unfold mtL at hk
  rw [List.getElem?_zipWith] at hk
  cases hx : L[k]? with
  | none => rw [hx] at hk; simp at hk
  | some x =>
    cases hs : S[k]? with
    | none => rw [hx, hs] at hk; simp at hk
    | some s =>
      rw [hx, hs] at hk
      injection hk with hk
      exact ⟨x, s, List.mem_of_getElem? hx, List.mem_of_getElem? hs, hk.symm⟩
theorem takeB {A : List Bool} {k : Nat} {z : Bool} (h : A[k]? = some z) : (A.take (k + 1)).any id = ((A.take k).any id || z) := by
  rw [List.take_add_one, h]
  simp
end Go.Proofs.Ytlabeelbbkbkaaa
